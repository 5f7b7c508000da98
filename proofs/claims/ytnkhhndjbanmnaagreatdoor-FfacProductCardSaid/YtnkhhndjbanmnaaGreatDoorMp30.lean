/- Texts joined, in their order: FlnRow. -/
import Derived.StillTailTactics
import Derived.Shelf.Abstract
import Derived.Test.YtnkhhndjbanmnaaGreatDoorMp6
import Derived.Test.YtnkhhndjbanmnaaGreatDoorMp29

/- Plain rows with the places of their first residues, as they lie in memory: two cells a row. -/
namespace Go.Proofs.YtnkhhndjbanmnaaGreatDoor
open Go.RowKit Go.Shelf

def plc (P : List (Nat × List Int)) (i : Nat) : Nat := (P.getD i (0, [])).1
theorem plc_at {P : List (Nat × List Int)} {i : Nat} (h : i < P.length) : plc P i = (P[i]).1 := by
  unfold plc
  rw [List.getD_eq_getElem?_getD, List.getElem?_eq_getElem h]
  rfl
def RowsAt (w : World) (A : Option Addr) (n c : Nat) (P : List (Nat × List Int)) : Prop :=
  n = P.length ∧ n ≤ c ∧ c ≤ 9223372036854775807 ∧ (n = 0 ∨ ∃ b o, A = some ⟨b, o, none⟩ ∧ b < w.heap.size ∧
    ∀ i, i < n → w.cell? ⟨b, o + i * 2, none⟩ = some (.int .i64 (plc P i : Int)) ∧ ∃ C k d, w.cell? ⟨b, o + i * 2 + 1, none⟩ = some (.slice C k d) ∧ ISl w C k d (prow P i))
theorem RowsAt.len {w : World} {A : Option Addr} {n c : Nat} {P : List (Nat × List Int)} (h : RowsAt w A n c P) : n = P.length := h.1
theorem RowsAt.le {w : World} {A : Option Addr} {n c : Nat} {P : List (Nat × List Int)} (h : RowsAt w A n c P) : n ≤ c := h.2.1
theorem RowsAt.max {w : World} {A : Option Addr} {n c : Nat} {P : List (Nat × List Int)} (h : RowsAt w A n c P) : c ≤ 9223372036854775807 := h.2.2.1
theorem RowsAt.nil (w : World) (A : Option Addr) (c : Nat) (hc : c ≤ 9223372036854775807) : RowsAt w A 0 c [] := ⟨rfl, Nat.zero_le _, hc, .inl rfl⟩
theorem RowsAt.open_ {w : World} {A : Option Addr} {n c : Nat} {P : List (Nat × List Int)} (h : RowsAt w A n c P) (hn : 0 < n) : ∃ b o, A = some ⟨b, o, none⟩ ∧ b < w.heap.size ∧
    ∀ i, i < n → w.cell? ⟨b, o + i * 2, none⟩ = some (.int .i64 (plc P i : Int)) ∧ ∃ C k d, w.cell? ⟨b, o + i * 2 + 1, none⟩ = some (.slice C k d) ∧ ISl w C k d (prow P i) := by
  rcases h.2.2.2 with h | h
  · omega
  · exact h
theorem RowsAt.below {w w' : World} {A : Option Addr} {n c : Nat} {P : List (Nat × List Int)} (h : RowsAt w A n c P) (hb : Below w.heap.size w w') : RowsAt w' A n c P := by
  refine ⟨h.1, h.2.1, h.2.2.1, h.2.2.2.imp id ?_⟩
  rintro ⟨b, o, rfl, hlt, hc⟩
  refine ⟨b, o, rfl, Nat.lt_of_lt_of_le hlt hb.size, fun i hi => ?_⟩
  obtain ⟨h1, C, k, d, h2, h3⟩ := hc i hi
  exact ⟨(hb.cell (p := ⟨b, o + i * 2, none⟩) hlt).trans h1, C, k, d, (hb.cell (p := ⟨b, o + i * 2 + 1, none⟩) hlt).trans h2, h3.below hb⟩
theorem RowsAt.one (w : World) (x : Nat) (C : Option Addr) (k d : Nat) (L : List Int) (h : ISl w C k d L) : RowsAt (w.alloc (.cells #[.int .i64 (x : Int), .slice C k d] 136)) (some ⟨w.heap.size, 0, none⟩) 1 1 [(x, L)] := by
  refine ⟨rfl, Nat.le_refl _, by decide, .inr ⟨w.heap.size, 0, rfl, by simp, fun i hi => ?_⟩⟩
  obtain rfl : i = 0 := by omega
  refine ⟨by simp [plc], C, k, d, by simp, ?_⟩
  exact h.below ((Below.refl _ _).alloc (Nat.le_refl _) _)

def BxL (w : World) (B : Nat) (v : Value) : Prop := B < w.heap.size ∧ w.cell? ⟨B, 0, none⟩ = some v
theorem BxL.below {w W : World} {B : Nat} {v : Value} (h : BxL w B v) (hb : Below w.heap.size w W) : BxL W B v := ⟨Nat.lt_of_lt_of_le h.1 hb.size, (hb.cell (p := ⟨B, 0, none⟩) h.1).trans h.2⟩
theorem BxL.new (w : World) (v : Value) (T : TypeId) : BxL (w.alloc (.cells #[v] T)) w.heap.size v := by
  constructor <;> simp
theorem BxL.alloc {w : World} {B : Nat} {v : Value} (h : BxL w B v) (o : Obj) : BxL (w.alloc o) B v := h.below ((Below.refl _ _).alloc (Nat.le_refl _) _)
theorem belowL_al (w : World) (o : Obj) : Below w.heap.size w (w.alloc o) := (Below.refl _ _).alloc (Nat.le_refl _) _
theorem islL_al {w : World} {A : Option Addr} {n c : Nat} {xs : List Int} (h : ISl w A n c xs) (o : Obj) : ISl (w.alloc o) A n c xs := h.below (belowL_al w o)
theorem pRedL_md (a p : Int) (hp : Md p) (w : World) : Calls Tryz.prog 90 #[.int .i64 a, .int .i64 p] w fun e w' => e = .returned (.int .i64 (a % p)) ∧ w = w' := by
  have := pRed_any a p w (by have := hp.1; omega) (by have := hp.2; omega)
  rwa [red_pos hp.1] at this
def TellsL (g : Nat) (lb : Array Value) (f : Ser) (n : Nat) (w : World) : Prop :=
  ∀ (W : World) (t : Nat), t < n → Below w.heap.size w W → Calls Tryz.prog g (#[.int .i64 (t : Int)] ++ lb) W fun e w' => e = .returned (.int .i64 (f t)) ∧ Below W.heap.size W w'
def NRow (w : World) (v : Value) (n : Nat) (L : List Int) (w' : World) : Prop := ∃ g, v = .slice (some ⟨g, 0, none⟩) n n ∧ n = L.length ∧ IBlk w' g L ∧ w.heap.size ≤ g ∧ Below w.heap.size w w'
theorem NRow.bel {w w' : World} {v : Value} {n : Nat} {L : List Int} (h : NRow w v n L w') : Below w.heap.size w w' := by
  obtain ⟨_, _, _, _, _, h⟩ := h
  exact h
theorem NRow.after {w0 w w' : World} {v : Value} {n : Nat} {L : List Int} (h : NRow w v n L w') (hb : Below w0.heap.size w0 w) : NRow w0 v n L w' := by
  obtain ⟨g, e, hn, h1, h2, h3⟩ := h
  exact ⟨g, e, hn, h1, Nat.le_trans hb.size h2, hb.trans (h3.mono hb.size)⟩

set_option maxRecDepth 100000 in
set_option maxHeartbeats 4000000 in
theorem fMade_any (g : Nat) (lb : Array Value) (eg : ∀ args w, (callFunc g args).run Tryz.prog w = .ok (.enter g args) w) (f : Ser) (n : Nat) (p : Int) (w : World) (hp : Md p) (hT : TellsL g lb f n w) (hn : n ≤ 35184372088832) :
    Calls Tryz.prog 179 #[.int .i64 (n : Int), .int .i64 p, .func (.func g) #[] lb] w fun e w' => ∃ v, e = .returned v ∧ NRow w v n (tld p n f) w' := by
  have MD := Lib.hid hp
  obtain ⟨hp1, hp2⟩ := hp
  have HT := Lib.hid hT
  have RED := Lib.hid (fun (a : Int) (w : World) => pRedL_md a p MD.out w)
  clear hT
  go_enter Tryz.func179, Tryz.ntmps179
  go_wp2_with (at_make; refine wpList_make_ints _ rfl _ _ rfl _ _ _ _ n rfl rfl rfl rfl (by omega) ?_; intro w3 hk3 hb3; have HK3 := Lib.hid hk3; clear hk3)
  go_loopw [13] (fun i wr => ∃ t : Nat, t ≤ n ∧ i = .int .i64 (t : Int) ∧ ∃ L, IBlk wr w.heap.size L ∧ MdIn p f n t L ∧ Below w.heap.size w wr) (fun i _ => n - (intOf i).toNat)
  case atStart => exact ⟨0, Nat.zero_le _, rfl, _, HK3.out, mdIn_start hp1 f n, hb3⟩
  case round =>
    obtain ⟨t, ht, rfl, L, hL, hIn, hbel⟩ := hrel
    clear HK3 hb3
    by_cases hlt : t < n
    · have c1 := HT.out wr t hlt hbel
      have hst := hIn.step hp1 hlt
      obtain ⟨u, hu⟩ : ∃ u, f t = u := ⟨_, rfl⟩
      rw [hu] at c1 hst
      have r1 := RED.out u
      have hq0 := Int.emod_nonneg u (b := p) (by omega)
      have hq1 := Int.emod_lt_of_pos u (b := p) (by omega)
      obtain ⟨z, hz⟩ : ∃ z, u % p = z := ⟨_, rfl⟩
      rw [hz] at r1 hst hq0 hq1
      have hf1 := hL.frozen t
      have hll := hIn.1
      have HLL := Lib.hid hll
      have HST := Lib.hid hst
      have C1 := Lib.hid c1
      have R1 := Lib.hid r1
      have HL := Lib.hid hL
      have HBB := Lib.hid hbel
      have i2 : (t : Int) < (n : Int) := by omega
      clear c1 hst r1 hu hz hf1 hll hL hIn hbel
      go_wp2_with (first
        | (go_at_fn g; (with_reducible refine C1.out.mono ?_); rintro e w5 ⟨rfl, hb5⟩; have hL5 := HL.out.below hb5; have HL5 := Lib.hid hL5; have hc5 := hL5.cellD t (by rw [HLL.out]; exact hlt); have hf5 := hL5.frozen t; have HB5 := Lib.hid (HBB.out.trans (hb5.mono HBB.out.size)); clear hb5 hL5)
        | (go_at_call 90; (with_reducible refine (R1.out _).mono ?_); rintro e w6 ⟨rfl, rfl⟩))
      go_roundw
      case rel => exact ⟨t + 1, by omega, by go_num, _, HL5.out.set_ t z (by unfold In64; omega), HST.out, HB5.out.setCell (p := ⟨w.heap.size, t, none⟩) (Nat.le_refl _) _⟩
      case measure => simp [intOf]; omega
    · obtain rfl : t = n := by omega
      have hll := hIn.1
      have e := hIn.tld
      subst e
      have HL := Lib.hid hL
      have HBB := Lib.hid hbel
      clear hIn hL hbel
      go_wp2_with fail
      go_ret
      exact ⟨_, rfl, _, rfl, hll.symm, HL.out, Nat.le_refl _, HBB.out⟩

set_option maxRecDepth 100000 in
set_option maxHeartbeats 400000 in
theorem tellsL_plain (A : Option Addr) (n c B : Nat) (xs : List Int) (w : World) (hB : BxL w B (.slice A n c)) (h : ISl w A n c xs) :
    TellsL 181 #[.pointer (some ⟨B, 0, none⟩)] (cf xs) n w := by
  intro W t ht hbel
  show Calls _ _ #[.int .i64 (t : Int), .pointer (some ⟨B, 0, none⟩)] W _
  have h2 := h.below hbel
  have hcl := h.le
  have hcm := h.max
  obtain ⟨b, o, rfl, hbl, hc⟩ := h2.cfs (by omega)
  have hc1 := (hB.below hbel).2
  have hc2 := hc t ht
  generalize cf xs t = x at *
  clear hc h2 h hB hbel
  go_enter Tryz.func181, Tryz.ntmps181
  go_wp2_with fail
  go_ret
  exact ⟨rfl, Below.refl _ _⟩

set_option maxRecDepth 100000 in
set_option maxHeartbeats 1000000 in
theorem fPlain_any (A : Option Addr) (n c : Nat) (xs : List Int) (p : Int) (w : World) (h : ISl w A n c xs) (hp : Md p) (hn : n ≤ 35184372088832) :
    Calls Tryz.prog 148 #[.slice A n c, .int .i64 p] w fun e w' => ∃ v, e = .returned v ∧ NRow w v n (rst p xs) w' := by
  have M := fMade_any 181 _ (enters_of Tryz.func181 (by kernel_rfl) rfl) (cf xs) n p _ hp (tellsL_plain A n c w.heap.size xs _ (BxL.new w _ 22) (islL_al h _)) hn
  rw [tld_rst h.len] at M
  have MM := Lib.hid M
  have hcl := h.le
  have hcm := h.max
  have hmf : ∀ (fn : Fn) (first cap : Array Value) (w : World), (Instr.makeFunc fn first cap).run Tryz.prog w = .ok (.func fn first cap) w := fun _ _ _ _ => rfl
  clear M h hp
  go_enter Tryz.func148, Tryz.ntmps148
  go_wp2_with (go_at_call 179; (with_reducible refine MM.out.mono ?_); rintro e w5 ⟨v, rfl, ho⟩; have HO := Lib.hid ho; clear ho)
  go_ret
  exact ⟨_, rfl, HO.out.after (belowL_al _ _)⟩
end Go.Proofs.YtnkhhndjbanmnaaGreatDoor
