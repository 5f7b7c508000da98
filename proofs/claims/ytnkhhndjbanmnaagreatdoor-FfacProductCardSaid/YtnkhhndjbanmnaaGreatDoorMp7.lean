/- Texts joined, in their order: PrgArith. -/
import Derived.Test.YtnkhhndjbanmnaaGreatDoorMp6

/- fpoly's plain, times, product, withTimes, less and Deriv's rows, by their contracts: each told place by place. -/
namespace Go.Proofs.YtnkhhndjbanmnaaGreatDoor
open Go.RowKit Go.Shelf

def Bx (w : World) (B : Nat) (v : Value) : Prop := B < w.heap.size ∧ w.cell? ⟨B, 0, none⟩ = some v
theorem Bx.below {w W : World} {B : Nat} {v : Value} (h : Bx w B v) (hb : Below w.heap.size w W) : Bx W B v := ⟨Nat.lt_of_lt_of_le h.1 hb.size, (hb.cell (p := ⟨B, 0, none⟩) h.1).trans h.2⟩
theorem Bx.new (w : World) (v : Value) (T : TypeId) : Bx (w.alloc (.cells #[v] T)) w.heap.size v := by
  constructor <;> simp
theorem Bx.alloc {w : World} {B : Nat} {v : Value} (h : Bx w B v) (o : Obj) : Bx (w.alloc o) B v := h.below ((Below.refl _ _).alloc (Nat.le_refl _) _)
theorem quietD {P : Program} {f : FuncId} {args : Array Value} {w : World} {n : Nat} {v : Value}
    (h : Calls P f args (w.drewN n) fun e w' => e = .returned v ∧ ∃ q, w' = (w.drewN n).drewN q) : Calls P f args (w.drewN n) fun e w'' => e = .returned v ∧ ∃ m, w'' = w.drewN m :=
  h.mono fun _ _ ⟨he, q, hq⟩ => ⟨he, n + q, by rw [hq, World.drewN_drewN]⟩
theorem below_al (w : World) (o : Obj) : Below w.heap.size w (w.alloc o) := (Below.refl _ _).alloc (Nat.le_refl _) _
theorem isl_al {w : World} {A : Option Addr} {n c : Nat} {xs : List Int} (h : ISl w A n c xs) (o : Obj) : ISl (w.alloc o) A n c xs := h.below (below_al w o)
theorem pRed_md (a p : Int) (hp : Md p) (w : World) : Calls Tryz.prog 90 #[.int .i64 a, .int .i64 p] w fun e w' => e = .returned (.int .i64 (a % p)) ∧ w = w' := by
  have := pRed_any a p w (by have := hp.1; omega) (by have := hp.2; omega)
  rwa [red_pos hp.1] at this

set_option maxRecDepth 100000 in
set_option maxHeartbeats 400000 in
theorem tells_plain (A : Option Addr) (n c B : Nat) (xs : List Int) (w : World) (hB : Bx w B (.slice A n c)) (h : ISl w A n c xs) :
    Tells 79 #[.pointer (some ⟨B, 0, none⟩)] (cf xs) n w := by
  intro W t ht hbel
  show Calls _ _ #[.int .i64 (t : Int), .pointer (some ⟨B, 0, none⟩)] W _
  have h2 := h.below hbel
  have hcl := h.le
  have hcm := h.max
  obtain ⟨b, o, rfl, hbl, hc⟩ := h2.cf_ (by omega)
  have hc1 := (hB.below hbel).2
  have hc2 := hc t ht
  generalize cf xs t = x at *
  clear hc h2 h hB hbel
  go_enter Tryz.func79, Tryz.ntmps79
  go_wp2_with fail
  go_ret
  exact ⟨rfl, Below.refl _ _⟩

set_option maxRecDepth 100000 in
set_option maxHeartbeats 1000000 in
theorem pPlain_any (A : Option Addr) (n c : Nat) (xs : List Int) (p : Int) (w : World) (h : ISl w A n c xs) (hp : Md p) (hn : n ≤ 35184372088832) :
    Calls Tryz.prog 49 #[.slice A n c, .int .i64 p] w fun e w' => ∃ v, e = .returned v ∧ PolOut p (cf xs) n w v w' := by
  have M := pMade_any 79 _ (enters_of Tryz.func79 (by kernel_rfl) rfl) (cf xs) n p _ hp (tells_plain A n c w.heap.size xs _ (Bx.new w _ 22) (isl_al h _)) hn
  have MM := Lib.hid M
  have EQ := Lib.hid (fst_bd (p := p) (f := cf xs) (n := n) (by rw [h.len]; exact bd_len p xs))
  have hcl := h.le
  have hcm := h.max
  have hmf : ∀ (fn : Fn) (first cap : Array Value) (w : World), (Instr.makeFunc fn first cap).run Tryz.prog w = .ok (.func fn first cap) w := fun _ _ _ _ => rfl
  clear M h hp
  go_enter Tryz.func49, Tryz.ntmps49
  go_wp2_with (go_at_call 78; (with_reducible refine MM.out.mono ?_); rintro e w5 ⟨v, rfl, ho⟩; have HO := Lib.hid ho; clear ho)
  go_ret
  exact ⟨_, rfl, (HO.out.eq EQ.out).after (below_al _ _) (Nat.le_refl _)⟩

set_option maxRecDepth 100000 in
set_option maxHeartbeats 1000000 in
theorem tells_times (A : Option Addr) (n c B1 B2 : Nat) (u : Int) (xs : List Int) (p : Int) (w : World) (h1 : Bx w B1 (.int .i64 u)) (h2 : Bx w B2 (.slice A n c)) (h : ISl w A n c xs) (hp : Md p) (hu : 0 ≤ u ∧ u < p) (hx : Rs p xs) :
    Tells 159 #[.pointer (some ⟨B1, 0, none⟩), .pointer (some ⟨B2, 0, none⟩)] (Ser.sc u (cf xs)) n w := by
  intro W t ht hbel
  show Calls _ _ #[.int .i64 (t : Int), .pointer (some ⟨B1, 0, none⟩), .pointer (some ⟨B2, 0, none⟩)] W fun e w' => e = .returned (.int .i64 (u * cf xs t)) ∧ Below W.heap.size W w'
  have h3 := h.below hbel
  have hcl := h.le
  have hcm := h.max
  obtain ⟨b, o, rfl, hbl, hc⟩ := h3.cf_ (by omega)
  have hc1 := (h1.below hbel).2
  have hc2 := (h2.below hbel).2
  have hc3 := hc t ht
  have bm := mul_bdM hu (hx.at hp.1 t) hp.2
  obtain ⟨P, hP⟩ : ∃ P, u * cf xs t = P := ⟨_, rfl⟩
  generalize cf xs t = x at *
  rw [hP] at bm ⊢
  have bm1 := bm.1
  have bm2 := bm.2
  have hm : IntKind.i64.wrap (u * x) = P := by rw [hP, IntKind.wrap_i64]; omega
  have i1 : (0 : Int) ≤ (t : Int) := by omega
  have i2 : (t : Int) < (n : Int) := by omega
  clear hc h3 h hbel h1 h2 hx hP bm hp hu
  go_enter Tryz.func159, Tryz.ntmps159
  go_wp2_with fail
  go_quiet (fail)
  go_wp2_with fail
  go_ret
  exact ⟨rfl, pbelow_drewN _ _⟩

set_option maxRecDepth 100000 in
set_option maxHeartbeats 1000000 in
theorem pTimes_any (A : Option Addr) (n c : Nat) (u : Int) (xs : List Int) (p : Int) (w : World) (h : ISl w A n c xs) (hp : Md p) (hu : 0 ≤ u ∧ u < p) (hx : Rs p xs) (hn : n ≤ 35184372088832) :
    Calls Tryz.prog 131 #[.int .i64 u, .slice A n c, .int .i64 p] w fun e w' => ∃ v, e = .returned v ∧ PolOut p (Ser.sc u (cf xs)) n w v w' := by
  have M := pMade_any 159 _ (enters_of Tryz.func159 (by kernel_rfl) rfl) (Ser.sc u (cf xs)) n p _ hp
    (tells_times A n c w.heap.size (w.heap.size + 1) u xs p ((w.alloc (.cells #[.int .i64 u] 3)).alloc (.cells #[.slice A n c] 22)) ((Bx.new w _ _).alloc _) (by have := Bx.new (w.alloc (.cells #[.int .i64 u] 3)) (.slice A n c) 22; simpa using this) (isl_al (isl_al h _) _) hp hu hx) hn
  have MM := Lib.hid M
  have EQ := Lib.hid (fst_bd (p := p) (f := Ser.sc u (cf xs)) (n := n) (by
    intro i hi
    show u * cf xs i % p = 0
    rw [cf_over (by rw [← h.len]; exact hi)]; simp))
  have BB := Lib.hid ((below_al w (.cells #[.int .i64 u] 3)).trans ((below_al (w.alloc (.cells #[.int .i64 u] 3)) (.cells #[.slice A n c] 22)).mono (below_al w _).size))
  have hcl := h.le
  have hcm := h.max
  have hmf : ∀ (fn : Fn) (first cap : Array Value) (w : World), (Instr.makeFunc fn first cap).run Tryz.prog w = .ok (.func fn first cap) w := fun _ _ _ _ => rfl
  clear M h hp hu hx
  go_enter Tryz.func131, Tryz.ntmps131
  go_wp2_with (go_at_call 78; (with_reducible refine MM.out.mono ?_); rintro e w5 ⟨v, rfl, ho⟩; have HO := Lib.hid ho; clear ho)
  go_ret
  exact ⟨_, rfl, (HO.out.eq EQ.out).after BB.out (Nat.le_refl _)⟩

set_option maxRecDepth 100000 in
set_option maxHeartbeats 1000000 in
theorem tells_product (A B : Option Addr) (n c n' c' B1 B2 : Nat) (xs ys : List Int) (p : Int) (w : World) (h1 : Bx w B1 (.slice A n c)) (h2 : Bx w B2 (.slice B n' c')) (h : ISl w A n c xs) (h' : ISl w B n' c' ys) (hp : Md p) (hx : Rs p xs) (hy : Rs p ys) (hn : n ≤ 100000000) (hn' : n' ≤ 100000000) :
    Tells 129 #[.pointer (some ⟨B1, 0, none⟩), .pointer (some ⟨B2, 0, none⟩)] (Ser.mul (cf xs) (cf ys)) (n + n') w := by
  intro W t ht hbel
  show Calls _ _ #[.int .i64 (t : Int), .pointer (some ⟨B1, 0, none⟩), .pointer (some ⟨B2, 0, none⟩)] W _
  have hc1 := (h1.below hbel).2
  have hc2 := (h2.below hbel).2
  have S := Lib.hid (pSumAt_any A B n c n' c' xs ys t p W (h.below hbel) (h'.below hbel) hp hx hy (by omega) (by omega) (by omega))
  generalize Ser.mul (cf xs) (cf ys) t = r at *
  clear h h' hbel h1 h2 hx hy hp
  go_enter Tryz.func129, Tryz.ntmps129
  go_wp2_with (go_at_call 130; (with_reducible refine S.out.mono ?_); rintro e w5 ⟨rfl, q, rfl⟩)
  go_ret
  exact ⟨rfl, pbelow_drewN _ _⟩

theorem bd_mulcf (p : Int) (xs ys : List Int) : Ser.Bd p (Ser.mul (cf xs) (cf ys)) (xs.length + ys.length) := by
  intro i hi
  rw [← psum_end (f := cf xs) (g := cf ys) (k := i) (i := xs.length) (fun j hj => cf_over hj) (by omega), psum_low (f := cf xs) (g := cf ys) (fun j hj => cf_over (by omega))]
  simp

set_option maxRecDepth 100000 in
set_option maxHeartbeats 1000000 in
theorem pProd_any (A B : Option Addr) (n c n' c' : Nat) (xs ys : List Int) (p : Int) (w : World) (h : ISl w A n c xs) (h' : ISl w B n' c' ys) (hp : Md p) (hx : Rs p xs) (hy : Rs p ys) (hn : n ≤ 100000000) (hn' : n' ≤ 100000000) :
    Calls Tryz.prog 80 #[.slice A n c, .slice B n' c', .int .i64 p] w fun e w' => ∃ v, e = .returned v ∧ PolOut p (Ser.mul (cf xs) (cf ys)) (n + n') w v w' := by
  have M := pMade_any 129 _ (enters_of Tryz.func129 (by kernel_rfl) rfl) (Ser.mul (cf xs) (cf ys)) (n + n') p _ hp
    (tells_product A B n c n' c' w.heap.size (w.heap.size + 1) xs ys p ((w.alloc (.cells #[.slice A n c] 22)).alloc (.cells #[.slice B n' c'] 22)) ((Bx.new w _ _).alloc _) (by have := Bx.new (w.alloc (.cells #[.slice A n c] 22)) (.slice B n' c') 22; simpa using this) (isl_al (isl_al h _) _) (isl_al (isl_al h' _) _) hp hx hy hn hn') (by omega)
  rw [show ((n + n' : Nat) : Int) = (n : Int) + (n' : Int) from by omega] at M
  have MM := Lib.hid M
  have EQ := Lib.hid (fst_bd (p := p) (f := Ser.mul (cf xs) (cf ys)) (n := n + n') (by rw [h.len, h'.len]; exact bd_mulcf p xs ys))
  have BB := Lib.hid ((below_al w (.cells #[.slice A n c] 22)).trans ((below_al (w.alloc (.cells #[.slice A n c] 22)) (.cells #[.slice B n' c'] 22)).mono (below_al w _).size))
  have hcl := h.le
  have hcm := h.max
  have hcl' := h'.le
  have hcm' := h'.max
  have hmf : ∀ (fn : Fn) (first cap : Array Value) (w : World), (Instr.makeFunc fn first cap).run Tryz.prog w = .ok (.func fn first cap) w := fun _ _ _ _ => rfl
  clear M h h' hp hx hy
  go_enter Tryz.func80, Tryz.ntmps80
  go_wp2_with (go_at_call 78; (with_reducible refine MM.out.mono ?_); rintro e w5 ⟨v, rfl, ho⟩; have HO := Lib.hid ho; clear ho)
  go_ret
  exact ⟨_, rfl, (HO.out.eq EQ.out).after BB.out (Nat.le_refl _)⟩

set_option maxRecDepth 100000 in
set_option maxHeartbeats 1000000 in
theorem tells_with (A B : Option Addr) (n c n' c' B1 B2 B3 B4 N : Nat) (u : Int) (xs ys : List Int) (p : Int) (w : World) (h1 : Bx w B1 (.slice A n c)) (h2 : Bx w B2 (.int .i64 p)) (h3 : Bx w B3 (.int .i64 u)) (h4 : Bx w B4 (.slice B n' c')) (h : ISl w A n c xs) (h' : ISl w B n' c' ys) (hp : Md p) (hu : -1 ≤ u ∧ u ≤ 1) (hN : N ≤ 35184372088832) :
    Tells 175 #[.pointer (some ⟨B1, 0, none⟩), .pointer (some ⟨B2, 0, none⟩), .pointer (some ⟨B3, 0, none⟩), .pointer (some ⟨B4, 0, none⟩)] (fun i => cf xs i % p + u * (cf ys i % p)) N w := by
  intro W t ht hbel
  show Calls _ _ #[.int .i64 (t : Int), .pointer (some ⟨B1, 0, none⟩), .pointer (some ⟨B2, 0, none⟩), .pointer (some ⟨B3, 0, none⟩), .pointer (some ⟨B4, 0, none⟩)] W fun e w' => e = .returned (.int .i64 (cf xs t % p + u * (cf ys t % p))) ∧ Below W.heap.size W w'
  have hc1 := (h1.below hbel).2
  have hc2 := (h2.below hbel).2
  have hc3 := (h3.below hbel).2
  have hc4 := (h4.below hbel).2
  have hp1 := hp.1
  have hp2 := hp.2
  have C1 := Lib.hid (fun q => quietL (pCoef_any A n c xs t (W.drewN q) ((h.below hbel).below (pbelow_drewN W q)) (by omega)))
  have C2 := Lib.hid (fun q => quietL (pCoef_any B n' c' ys t (W.drewN q) ((h'.below hbel).below (pbelow_drewN W q)) (by omega)))
  have R1 := Lib.hid (fun q => quietL (pRed_md (cf xs t) p hp (W.drewN q)))
  have R2 := Lib.hid (fun q => quietL (pRed_md (cf ys t) p hp (W.drewN q)))
  have q1 := Int.emod_nonneg (cf xs t) (b := p) (by omega)
  have q2 := Int.emod_lt_of_pos (cf xs t) (b := p) (by omega)
  have q3 := Int.emod_nonneg (cf ys t) (b := p) (by omega)
  have q4 := Int.emod_lt_of_pos (cf ys t) (b := p) (by omega)
  generalize cf xs t % p = x at *
  generalize cf ys t % p = y at *
  generalize cf xs t = x0 at *
  generalize cf ys t = y0 at *
  have hub : -65521 ≤ u * y ∧ u * y ≤ 65521 := by
    have : u = -1 ∨ u = 0 ∨ u = 1 := by omega
    rcases this with rfl | rfl | rfl <;> omega
  obtain ⟨P, hP⟩ : ∃ P, u * y = P := ⟨_, rfl⟩
  rw [hP] at hub ⊢
  have u1 := hub.1
  have u2 := hub.2
  have m1 : IntKind.i64.wrap (u * y) = P := by rw [hP, IntKind.wrap_i64]; omega
  have m2 : IntKind.i64.wrap (x + P) = x + P := by rw [IntKind.wrap_i64]; omega
  clear h h' hbel h1 h2 h3 h4 hp hu hP hub
  go_enter Tryz.func175, Tryz.ntmps175
  go_wp2_with fail
  go_quiet (first
    | (go_at_call 176; with_reducible exact C1.out _)
    | (go_at_call 176; with_reducible exact C2.out _)
    | (go_at_call 90; with_reducible exact R1.out _)
    | (go_at_call 90; with_reducible exact R2.out _))
  go_wp2_with fail
  go_ret
  exact ⟨rfl, pbelow_drewN _ _⟩

set_option maxRecDepth 100000 in
set_option maxHeartbeats 1000000 in
theorem pWith_any (A B : Option Addr) (n c n' c' : Nat) (u : Int) (xs ys : List Int) (p : Int) (w : World) (h : ISl w A n c xs) (h' : ISl w B n' c' ys) (hp : Md p) (hu : -1 ≤ u ∧ u ≤ 1) (hn : n ≤ 35184372088832) (hn' : n' ≤ 35184372088832) :
    Calls Tryz.prog 138 #[.slice A n c, .int .i64 u, .slice B n' c', .int .i64 p] w fun e w' => ∃ v, e = .returned v ∧ PolOut p (Ser.add (cf xs) (Ser.sc u (cf ys))) (max n n') w v w' := by
  obtain ⟨N, hN⟩ : ∃ N, N = max n n' := ⟨_, rfl⟩
  obtain ⟨w1, hw1⟩ : ∃ w1, w1 = w.alloc (.cells #[.slice A n c] 22) := ⟨_, rfl⟩
  obtain ⟨w2, hw2⟩ : ∃ w2, w2 = w1.alloc (.cells #[.int .i64 u] 3) := ⟨_, rfl⟩
  obtain ⟨w3, hw3⟩ : ∃ w3, w3 = w2.alloc (.cells #[.slice B n' c'] 22) := ⟨_, rfl⟩
  obtain ⟨w4, hw4⟩ : ∃ w4, w4 = w3.alloc (.cells #[.int .i64 p] 3) := ⟨_, rfl⟩
  have s1 : w1.heap.size = w.heap.size + 1 := by rw [hw1]; simp
  have s2 : w2.heap.size = w.heap.size + 2 := by rw [hw2]; simp [s1]
  have s3 : w3.heap.size = w.heap.size + 3 := by rw [hw3]; simp [s2]
  have k1 : Bx w4 w.heap.size (.slice A n c) := by rw [hw4, hw3, hw2, hw1]; exact (((Bx.new w _ _).alloc _).alloc _).alloc _
  have k2 : Bx w4 (w.heap.size + 1) (.int .i64 u) := by rw [hw4, hw3, hw2, ← s1]; exact ((Bx.new w1 _ _).alloc _).alloc _
  have k3 : Bx w4 (w.heap.size + 2) (.slice B n' c') := by rw [hw4, hw3, ← s2]; exact (Bx.new w2 _ _).alloc _
  have k4 : Bx w4 (w.heap.size + 3) (.int .i64 p) := by rw [hw4, ← s3]; exact Bx.new w3 _ _
  have bb : Below w.heap.size w w4 := by rw [hw4, hw3, hw2, hw1]; exact ((((Below.refl _ w).alloc (Nat.le_refl _) _).alloc (by simp) _).alloc (by simp; omega) _).alloc (by simp; omega) _
  have M := pMade_any 175 _ (enters_of Tryz.func175 (by kernel_rfl) rfl) (fun i => cf xs i % p + u * (cf ys i % p)) N p w4 hp
    (tells_with A B n c n' c' w.heap.size (w.heap.size + 3) (w.heap.size + 1) (w.heap.size + 2) N u xs ys p w4 k1 k4 k2 k3 (h.below bb) (h'.below bb) hp hu (by omega)) (by omega)
  rw [hw4, hw3, hw2, hw1] at M
  have BB : Hid (Below w.heap.size w ((((w.alloc (.cells #[.slice A n c] 22)).alloc (.cells #[.int .i64 u] 3)).alloc (.cells #[.slice B n' c'] 22)).alloc (.cells #[.int .i64 p] 3))) := Lib.hid (by rw [hw4, hw3, hw2, hw1] at bb; exact bb)
  have MM := Lib.hid M
  have EQ : Hid (Ser.Eq p (fst N (fun i => cf xs i % p + u * (cf ys i % p))) (Ser.add (cf xs) (Ser.sc u (cf ys)))) := Lib.hid (by
    have e1 : Ser.Eq p (fun i => cf xs i % p + u * (cf ys i % p)) (Ser.add (cf xs) (Ser.sc u (cf ys))) := fun i => by
      show (cf xs i % p + u * (cf ys i % p)) % p = (cf xs i + u * cf ys i) % p
      rw [Int.add_emod, Int.emod_emod_of_dvd _ (Int.dvd_refl p), Int.mul_emod u, Int.emod_emod_of_dvd _ (Int.dvd_refl p), ← Int.mul_emod, ← Int.add_emod]
    refine (fst_eq e1).trans (fst_bd ?_)
    intro i hi
    show (cf xs i + u * cf ys i) % p = 0
    rw [cf_over (by rw [← h.len]; omega), cf_over (by rw [← h'.len]; omega)]; simp)
  have hcl := h.le
  have hcm := h.max
  have hcl' := h'.le
  have hcm' := h'.max
  have hmf : ∀ (fn : Fn) (first cap : Array Value) (w : World), (Instr.makeFunc fn first cap).run Tryz.prog w = .ok (.func fn first cap) w := fun _ _ _ _ => rfl
  clear k1 k2 k3 k4 hw4 hw3 hw2 hw1 s1 s2 s3 bb M
  clear h h' hp hu w4 w3 w2 w1
  by_cases hlt : n < n'
  · obtain rfl : N = n' := by omega
    have hlt1 : (n : Int) < (N : Int) := by omega
    clear hN
    go_enter Tryz.func138, Tryz.ntmps138
    go_wp2_with (go_at_call 78; (with_reducible refine MM.out.mono ?_); rintro e w5 ⟨v, rfl, ho⟩; have HO := Lib.hid ho; clear ho)
    go_ret
    exact ⟨_, rfl, (HO.out.eq EQ.out).after BB.out (by omega)⟩
  · obtain rfl : N = n := by omega
    have hlt1 : ¬ (N : Int) < (n' : Int) := by omega
    clear hN
    go_enter Tryz.func138, Tryz.ntmps138
    go_wp2_with (go_at_call 78; (with_reducible refine MM.out.mono ?_); rintro e w5 ⟨v, rfl, ho⟩; have HO := Lib.hid ho; clear ho)
    go_ret
    exact ⟨_, rfl, (HO.out.eq EQ.out).after BB.out (by omega)⟩

set_option maxRecDepth 100000 in
set_option maxHeartbeats 1000000 in
theorem tells_less (A B D : Option Addr) (n c n' c' m d B1 B2 B3 N : Nat) (xs ys zs : List Int) (p : Int) (w : World) (h1 : Bx w B1 (.slice A n c)) (h2 : Bx w B2 (.slice B n' c')) (h3 : Bx w B3 (.slice D m d)) (h : ISl w A n c xs) (h' : ISl w B n' c' ys) (h'' : ISl w D m d zs) (hp : Md p) (hx : Rs p xs) (hy : Rs p ys) (hz : Rs p zs) (hn' : n' ≤ 1000000000) (hm : m ≤ 1000000000) (hN : N ≤ 1000000000000) :
    Tells 193 #[.pointer (some ⟨B1, 0, none⟩), .pointer (some ⟨B2, 0, none⟩), .pointer (some ⟨B3, 0, none⟩)] (fun i => cf xs i - Ser.mul (cf ys) (cf zs) i) N w := by
  intro W t ht hbel
  show Calls _ _ #[.int .i64 (t : Int), .pointer (some ⟨B1, 0, none⟩), .pointer (some ⟨B2, 0, none⟩), .pointer (some ⟨B3, 0, none⟩)] W fun e w' => e = .returned (.int .i64 (cf xs t - Ser.mul (cf ys) (cf zs) t)) ∧ Below W.heap.size W w'
  have hc1 := (h1.below hbel).2
  have hc2 := (h2.below hbel).2
  have hc3 := (h3.below hbel).2
  have C1 := Lib.hid (fun q => quietL (pCoef_any A n c xs t (W.drewN q) ((h.below hbel).below (pbelow_drewN W q)) (by omega)))
  have S1 := Lib.hid (fun q => quietD (pSumAt_any B D n' c' m d ys zs t p (W.drewN q) ((h'.below hbel).below (pbelow_drewN W q)) ((h''.below hbel).below (pbelow_drewN W q)) hp hy hz (by omega) hn' (by omega)))
  have bx := hx.at hp.1 t
  have bs := mul_bdS hp.2 (hy.at hp.1) (hz.at hp.1) (n := n') (fun j hj => cf_over (by rw [← h'.len]; exact hj)) t
  have hp2 := hp.2
  generalize cf xs t = x at *
  generalize Ser.mul (cf ys) (cf zs) t = s at *
  have b1 := bs.1
  have b2 := bs.2
  have b3 := bx.1
  have b4 := bx.2
  have m2 : IntKind.i64.wrap (x - s) = x - s := by rw [IntKind.wrap_i64]; omega
  clear h h' h'' hbel h1 h2 h3 hp hx hy hz bs bx
  go_enter Tryz.func193, Tryz.ntmps193
  go_wp2_with fail
  go_quiet (first
    | (go_at_call 176; with_reducible exact C1.out _)
    | (go_at_call 130; with_reducible exact S1.out _))
  go_wp2_with fail
  go_ret
  exact ⟨rfl, pbelow_drewN _ _⟩

set_option maxRecDepth 100000 in
set_option maxHeartbeats 1000000 in
theorem pLess_any (A B D : Option Addr) (n c n' c' m d N : Nat) (xs ys zs : List Int) (p : Int) (w : World) (h : ISl w A n c xs) (h' : ISl w B n' c' ys) (h'' : ISl w D m d zs) (hp : Md p) (hx : Rs p xs) (hy : Rs p ys) (hz : Rs p zs) (hn' : n' ≤ 1000000000) (hm : m ≤ 1000000000) (hN : N ≤ 1000000000000) :
    Calls Tryz.prog 169 #[.int .i64 (N : Int), .slice A n c, .slice B n' c', .slice D m d, .int .i64 p] w fun e w' => ∃ v, e = .returned v ∧ PolOut p (fst N (fun i => cf xs i - Ser.mul (cf ys) (cf zs) i)) N w v w' := by
  obtain ⟨w1, hw1⟩ : ∃ w1, w1 = w.alloc (.cells #[.slice A n c] 22) := ⟨_, rfl⟩
  obtain ⟨w2, hw2⟩ : ∃ w2, w2 = w1.alloc (.cells #[.slice B n' c'] 22) := ⟨_, rfl⟩
  obtain ⟨w3, hw3⟩ : ∃ w3, w3 = w2.alloc (.cells #[.slice D m d] 22) := ⟨_, rfl⟩
  have s1 : w1.heap.size = w.heap.size + 1 := by rw [hw1]; simp
  have s2 : w2.heap.size = w.heap.size + 2 := by rw [hw2]; simp [s1]
  have k1 : Bx w3 w.heap.size (.slice A n c) := by rw [hw3, hw2, hw1]; exact ((Bx.new w _ _).alloc _).alloc _
  have k2 : Bx w3 (w.heap.size + 1) (.slice B n' c') := by rw [hw3, hw2, ← s1]; exact (Bx.new w1 _ _).alloc _
  have k3 : Bx w3 (w.heap.size + 2) (.slice D m d) := by rw [hw3, ← s2]; exact Bx.new w2 _ _
  have bb : Below w.heap.size w w3 := by rw [hw3, hw2, hw1]; exact (((Below.refl _ w).alloc (Nat.le_refl _) _).alloc (by simp) _).alloc (by simp; omega) _
  have M := pMade_any 193 _ (enters_of Tryz.func193 (by kernel_rfl) rfl) (fun i => cf xs i - Ser.mul (cf ys) (cf zs) i) N p w3 hp
    (tells_less A B D n c n' c' m d w.heap.size (w.heap.size + 1) (w.heap.size + 2) N xs ys zs p w3 k1 k2 k3 (h.below bb) (h'.below bb) (h''.below bb) hp hx hy hz hn' hm hN) (by omega)
  rw [hw3, hw2, hw1] at M
  have BB : Hid (Below w.heap.size w (((w.alloc (.cells #[.slice A n c] 22)).alloc (.cells #[.slice B n' c'] 22)).alloc (.cells #[.slice D m d] 22))) := Lib.hid (by rw [hw3, hw2, hw1] at bb; exact bb)
  have MM := Lib.hid M
  have hmf : ∀ (fn : Fn) (first cap : Array Value) (w : World), (Instr.makeFunc fn first cap).run Tryz.prog w = .ok (.func fn first cap) w := fun _ _ _ _ => rfl
  clear k1 k2 k3 hw3 hw2 hw1 s1 s2 bb M
  clear h h' h'' hp hx hy hz w3 w2 w1
  go_enter Tryz.func169, Tryz.ntmps169
  go_wp2_with (go_at_call 78; (with_reducible refine MM.out.mono ?_); rintro e w5 ⟨v, rfl, ho⟩; have HO := Lib.hid ho; clear ho)
  go_ret
  exact ⟨_, rfl, HO.out.after BB.out (Nat.le_refl _)⟩

set_option maxRecDepth 100000 in
set_option maxHeartbeats 1000000 in
theorem tells_der (A : Option Addr) (n c B1 : Nat) (xs : List Int) (p : Int) (w : World) (h1 : Bx w B1 (.slice A n c)) (h : ISl w A n c xs) (hp : Md p) (hx : Rs p xs) (hn : n ≤ 1000000000000) :
    Tells 178 #[.pointer (some ⟨B1, 0, none⟩)] (Ser.der (cf xs)) n w := by
  intro W t ht hbel
  show Calls _ _ #[.int .i64 (t : Int), .pointer (some ⟨B1, 0, none⟩)] W fun e w' => e = .returned (.int .i64 (((t : Int) + 1) * cf xs (t + 1))) ∧ Below W.heap.size W w'
  have hc1 := (h1.below hbel).2
  have C := pCoef_any A n c xs (t + 1) W (h.below hbel) (by omega)
  rw [show ((t + 1 : Nat) : Int) = (t : Int) + 1 from by omega] at C
  have C1 := Lib.hid C
  have bx := hx.at hp.1 (t + 1)
  have hp2 := hp.2
  generalize cf xs (t + 1) = x at *
  have hb : 0 ≤ ((t : Int) + 1) * x ∧ ((t : Int) + 1) * x ≤ 100000000000000000 := by
    refine ⟨Int.mul_nonneg (by omega) bx.1, ?_⟩
    have h1 : ((t : Int) + 1) * x ≤ ((t : Int) + 1) * 65521 := Int.mul_le_mul_of_nonneg_left (by omega) (by omega)
    omega
  obtain ⟨P, hP⟩ : ∃ P, ((t : Int) + 1) * x = P := ⟨_, rfl⟩
  rw [hP] at hb ⊢
  have b1 := hb.1
  have b2 := hb.2
  have m1 : IntKind.i64.wrap (((t : Int) + 1) * x) = P := by rw [hP, IntKind.wrap_i64]; omega
  clear h hbel h1 hp hx C hP hb
  go_enter Tryz.func178, Tryz.ntmps178
  go_wp2_with (go_at_call 176; (with_reducible refine C1.out.mono ?_); rintro e w5 ⟨rfl, rfl⟩)
  go_ret
  exact ⟨rfl, Below.refl _ _⟩
end Go.Proofs.YtnkhhndjbanmnaaGreatDoor
