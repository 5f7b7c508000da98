/- Texts joined, in their order: ZSign, PolPow, RowWords, PolEuA. -/
import Derived.Laws.ShiftsVarLaws
import Derived.Laws.Bits64b
import Derived.Maps.AppendAt
import Derived.Test.YtnkhhndjbanmnaaGreatDoorMp3
import Derived.Test.YtnkhhndjbanmnaaGreatDoorMp6
import Derived.Test.YtnkhhndjbanmnaaGreatDoorMp8
import Derived.Test.YtnkhhndjbanmnaaGreatDoorMp9
import Derived.Test.YtnkhhndjbanmnaaGreatDoorMp11

/- cleaverref02.Norm and Sign, by their contracts. -/
namespace Go.Proofs.YtnkhhndjbanmnaaGreatDoor
open Go.RowKit

def zsg (neg : Bool) (v : Nat) : Int := if v = 0 then 0 else if neg = true then -1 else 1

end Go.Proofs.YtnkhhndjbanmnaaGreatDoor

/- cleaverref06.PowMod, by its contract. -/
namespace Go.Proofs.YtnkhhndjbanmnaaGreatDoor
open Go.RowKit

theorem lt_bitLen (v : Nat) : v < 2 ^ bitLen v := by
  unfold bitLen
  by_cases h : v = 0
  · subst h; simp
  · rw [if_neg h]; exact Nat.lt_log2_self
theorem bit_and64 (x j : Nat) (hx : x < 18446744073709551616) : bits .and .u64 ((x : Int) / 2 ^ (j % 64)) 1 = ((x / 2 ^ (j % 64) % 2 : Nat) : Int) := by
  have e : ((x : Int) / 2 ^ (j % 64)) = ((x / 2 ^ (j % 64) : Nat) : Int) := by simp
  have hlt : x / 2 ^ (j % 64) < 18446744073709551616 := Nat.lt_of_le_of_lt (Nat.div_le_self _ _) (by omega)
  rw [e]
  have h2 := bits_and_u64_nat (x / 2 ^ (j % 64)) 1 hlt (by decide)
  rw [Nat.and_one_is_mod] at h2
  exact h2
def RestIn (p : Int) (m : Nat) (f b : Ser) (w : World) (v : Value) : Prop := ∃ C k d rs, v = .slice C k d ∧ ISl w C k d rs ∧ Pln p rs ∧ RestOf p m f b (cf rs) ∧ k ≤ m

theorem divOut_rest {p : Int} {m n : Nat} {a b : Ser} {w w' : World} {v1 v2 : Value} (hp : Pr p) (h : DivOut p m a b n w v1 v2 w') : RestIn p m a b w' v2 := by
  obtain ⟨q, r, _, ⟨C, k, d, rs, hv, hs, hpol, _⟩, hd, hq, _⟩ := h
  have hr := RestOf.eqR (r' := cf rs) ⟨q, ⟨_, hq⟩, hd⟩ hpol.2.symm
  refine ⟨C, k, d, rs, hv, hs, hpol.1, hr, ?_⟩
  obtain ⟨_, _, _, hb⟩ := hr
  rw [hs.len]
  exact hpol.1.len_le (by have := hp.1; omega) hb

end Go.Proofs.YtnkhhndjbanmnaaGreatDoor

/- Words for memory, of rows of slices: read alone, known whole, growing by append. -/
namespace Go.Proofs.YtnkhhndjbanmnaaGreatDoor
open Go.RowKit

def IsSl (v : Value) : Prop := ∃ A n c, v = .slice A n c
def nilv : Value := .slice none 0 0
def Sv (xs : List Value) : Prop := ∀ v ∈ xs, IsSl v
theorem sv_nil : Sv [] := fun _ h => by cases h
theorem sv_take {xs : List Value} (h : Sv xs) (k : Nat) : Sv (xs.take k) := fun y hy => h y (List.mem_of_mem_take hy)
theorem sv_drop {xs : List Value} (h : Sv xs) (k : Nat) : Sv (xs.drop k) := fun y hy => h y (List.mem_of_mem_drop hy)
theorem sv_append {xs ys : List Value} (h : Sv xs) (k : Sv ys) : Sv (xs ++ ys) := fun y hy => by
  rcases List.mem_append.1 hy with hy | hy
  · exact h _ hy
  · exact k _ hy
theorem sv_one (A : Option Addr) (n c : Nat) : Sv [.slice A n c] := fun y hy => by simp at hy; exact ⟨A, n, c, hy⟩
theorem sv_cons {A : Option Addr} {n c : Nat} {xs : List Value} (h : Sv xs) : Sv (.slice A n c :: xs) := fun y hy => by
  rcases List.mem_cons.1 hy with rfl | hy
  · exact ⟨A, n, c, rfl⟩
  · exact h y hy

def VRd (w : World) (A : Option Addr) (xs : List Value) : Prop :=
  Sv xs ∧ (xs = [] ∨ ∃ b o, A = some ⟨b, o, none⟩ ∧ b < w.heap.size ∧ ∀ j (h : j < xs.length), w.cell? ⟨b, o + j, none⟩ = some xs[j])

theorem VRd.fit {w : World} {A : Option Addr} {xs : List Value} (h : VRd w A xs) : Sv xs := h.1
theorem VRd.nil (w : World) (A : Option Addr) : VRd w A [] := ⟨sv_nil, .inl rfl⟩
theorem VRd.below {w w' : World} {A : Option Addr} {xs : List Value} (h : VRd w A xs) (hb : Below w.heap.size w w') : VRd w' A xs := by
  refine ⟨h.1, h.2.imp id ?_⟩
  rintro ⟨b, o, rfl, hlt, hc⟩
  exact ⟨b, o, rfl, Nat.lt_of_lt_of_le hlt hb.size, fun j hj => (hb.cell (p := ⟨b, o + j, none⟩) hlt).trans (hc j hj)⟩
theorem VRd.take {w : World} {A : Option Addr} {xs : List Value} (h : VRd w A xs) (k : Nat) : VRd w A (xs.take k) := by
  refine ⟨sv_take h.1 k, ?_⟩
  rcases h.2 with rfl | ⟨b, o, rfl, hlt, hc⟩
  · left; simp
  · right
    refine ⟨b, o, rfl, hlt, fun j hj => ?_⟩
    have hj' : j < xs.length := by rw [List.length_take] at hj; omega
    rw [List.getElem_take]
    exact hc j hj'
theorem VRd.grown {w w' : World} {g : Nat} {A : Option Addr} {xs : List Value} (h : VRd w A xs) (hg : w.grownBy w' (some g)) (hne : ∀ b o s, A = some ⟨b, o, s⟩ → b ≠ g) : VRd w' A xs := by
  refine ⟨h.1, h.2.imp id ?_⟩
  rintro ⟨b, o, rfl, hlt, hc⟩
  refine ⟨b, o, rfl, Nat.lt_of_lt_of_le hlt hg.size, fun j hj => ?_⟩
  exact (World.cell?_of_block (w := w) (hg.block b hlt (fun e => hne b o none rfl (by injection e)))).trans (hc j hj)

def VBlk (w : World) (g : Nat) (L : List Value) : Prop := w.heap[g]? = some (.cells (L).toArray 22 (0, 0)) ∧ Sv L

theorem VBlk.lt {w : World} {g : Nat} {L : List Value} (h : VBlk w g L) : g < w.heap.size := by
  rcases Nat.lt_or_ge g w.heap.size with hlt | hge
  · exact hlt
  · have := h.1; rw [Array.getElem?_eq_none hge] at this; cases this
theorem VBlk.fit {w : World} {g : Nat} {L : List Value} (h : VBlk w g L) : Sv L := h.2
theorem VBlk.cell {w : World} {g : Nat} {L : List Value} (h : VBlk w g L) (i : Nat) (hi : i < L.length) : w.cell? ⟨g, i, none⟩ = some (L[i]) := by
  rw [cell_of_row w g i _ _ (0, 0) h.1]
  simp [hi]
theorem VBlk.frozen {w : World} {g : Nat} {L : List Value} (h : VBlk w g L) (i : Nat) : w.frozen? ⟨g, i, none⟩ = false := by
  have := h.1
  simp [World.frozen?, this]
theorem VBlk.below {w w' : World} {g : Nat} {L : List Value} (h : VBlk w g L) (hb : Below w.heap.size w w') : VBlk w' g L := ⟨(hb.block g h.lt).trans h.1, h.2⟩
theorem VBlk.grown {w w' : World} {g g' : Nat} {L : List Value} (h : VBlk w g L) (hb : w.grownBy w' (some g')) (hne : g ≠ g') : VBlk w' g L :=
  ⟨(hb.block g h.lt (fun e => hne (by injection e))).trans h.1, h.2⟩
theorem VBlk.set_ {w : World} {g : Nat} {L : List Value} (h : VBlk w g L) (i : Nat) (u : Value) (hu : IsSl u) : VBlk (w.setCell ⟨g, i, none⟩ u) g (L.set i u) := by
  refine ⟨?_, ?_⟩
  · have := h.1
    simp [World.setCell, Array.getElem?_modify, this]
  · intro x hx
    rcases List.mem_or_eq_of_mem_set hx with hx | rfl
    · exact h.2 x hx
    · exact hu
theorem VBlk.far {w : World} {g : Nat} {L : List Value} (h : VBlk w g L) {p : Addr} (hp : g ≠ p.block) (u : Value) : VBlk (w.setCell p u) g L :=
  ⟨(Below.heap_setCell w p u g hp).trans h.1, h.2⟩
theorem VBlk.alloc {w : World} {g : Nat} {L : List Value} (h : VBlk w g L) (o : Obj) : VBlk (w.alloc o) g L := ⟨(Below.heap_alloc w o g h.lt).trans h.1, h.2⟩
theorem VBlk.drew {w : World} {g : Nat} {L : List Value} (h : VBlk w g L) : VBlk w.drew g L := h
theorem VBlk.drewN {w : World} {g : Nat} {L : List Value} (h : VBlk w g L) (n : Nat) : VBlk (w.drewN n) g L := h
theorem VBlk.rd {w : World} {g : Nat} {L : List Value} (h : VBlk w g L) (o n : Nat) : VRd w (some ⟨g, o, none⟩) ((L.drop o).take n) := by
  refine ⟨sv_take (sv_drop h.2 o) n, .inr ⟨g, o, rfl, h.lt, fun j hj => ?_⟩⟩
  have hj' : o + j < L.length := by simp only [List.length_take, List.length_drop] at hj; omega
  rw [h.cell (o + j) hj']
  simp
theorem VBlk.rd0 {w : World} {g : Nat} {L : List Value} (h : VBlk w g L) : VRd w (some ⟨g, 0, none⟩) L := by
  have := h.rd 0 L.length
  simpa using this

def VSl (w : World) (A : Option Addr) (n c : Nat) (xs : List Value) : Prop := n = xs.length ∧ n ≤ c ∧ c ≤ 9223372036854775807 ∧ (A = none → c = 0) ∧ VRd w A xs

theorem VSl.len {w : World} {A : Option Addr} {n c : Nat} {xs : List Value} (h : VSl w A n c xs) : n = xs.length := h.1
theorem VSl.le {w : World} {A : Option Addr} {n c : Nat} {xs : List Value} (h : VSl w A n c xs) : n ≤ c := h.2.1
theorem VSl.max {w : World} {A : Option Addr} {n c : Nat} {xs : List Value} (h : VSl w A n c xs) : c ≤ 9223372036854775807 := h.2.2.1
theorem VSl.rd {w : World} {A : Option Addr} {n c : Nat} {xs : List Value} (h : VSl w A n c xs) : VRd w A xs := h.2.2.2.2
theorem VSl.fit {w : World} {A : Option Addr} {n c : Nat} {xs : List Value} (h : VSl w A n c xs) : Sv xs := h.2.2.2.2.1

theorem VSl.below {w w' : World} {A : Option Addr} {n c : Nat} {xs : List Value} (h : VSl w A n c xs) (hb : Below w.heap.size w w') : VSl w' A n c xs := ⟨h.1, h.2.1, h.2.2.1, h.2.2.2.1, h.2.2.2.2.below hb⟩
theorem VSl.at_ {w : World} {A : Option Addr} {n c : Nat} {xs : List Value} (h : VSl w A n c xs) (hn : 0 < n) : ∃ b o, A = some ⟨b, o, none⟩ ∧ b < w.heap.size ∧ ∀ j, j < n → w.cell? ⟨b, o + j, none⟩ = some (xs.getD j nilv) := by
  rcases h.rd.2 with e | ⟨b, o, rfl, hlt, hc⟩
  · rw [h.len, e] at hn; exact absurd hn (by simp)
  · refine ⟨b, o, rfl, hlt, fun j hj => ?_⟩
    have hj' : j < xs.length := by rw [← h.len]; exact hj
    rw [hc j hj', List.getD_eq_getElem?_getD, List.getElem?_eq_getElem hj']
    rfl

theorem VBlk.sl {w : World} {g : Nat} {L : List Value} (h : VBlk w g L) (hm : L.length ≤ 9223372036854775807) : VSl w (some ⟨g, 0, none⟩) L.length L.length L :=
  ⟨rfl, Nat.le_refl _, hm, (fun e => by cases e), h.rd0⟩
theorem VBlk.cellD {w : World} {g : Nat} {L : List Value} (h : VBlk w g L) (i : Nat) (hi : i < L.length) : w.cell? ⟨g, i, none⟩ = some (L.getD i nilv) := by
  rw [h.cell i hi, List.getD_eq_getElem?_getD, List.getElem?_eq_getElem hi]
  rfl
theorem infoV : (Tryz.prog.info? 22).map (fun i => (i.zero, i.size, i.bytes)) = some (some (.slice none 0 0), 1, 24) := by kernel_rfl

def VOw (w : World) (B : Nat) (v : Value) (xs : List Value) : Prop := w.ownsRow B 22 1 v xs.length (xs) ∧ Sv xs

theorem VOw.nil (w : World) (B : Nat) : VOw w B (.slice none 0 0) [] := ⟨World.ownsRow_nil _ _ _ _, sv_nil⟩
theorem VOw.fit {w : World} {B : Nat} {v : Value} {xs : List Value} (h : VOw w B v xs) : Sv xs := h.2
theorem VOw.alloc {w : World} {B : Nat} {v : Value} {xs : List Value} (h : VOw w B v xs) (o : Obj) : VOw (w.alloc o) B v xs := ⟨h.1.alloc o, h.2⟩
theorem VOw.drew {w : World} {B : Nat} {v : Value} {xs : List Value} (h : VOw w B v xs) : VOw w.drew B v xs := h
theorem VOw.sl {w : World} {B : Nat} {v : Value} {xs : List Value} (h : VOw w B v xs) : ∃ A c, v = .slice A xs.length c ∧ VSl w A xs.length c xs ∧ (∀ b o s, A = some ⟨b, o, s⟩ → B ≤ b) := by
  obtain ⟨⟨hl, h2⟩, hf⟩ := h
  rcases h2 with ⟨rfl, h0⟩ | ⟨g, cap, cur, rfl, hb, hh, hn, hc, hs, ht⟩
  · refine ⟨none, 0, by rw [h0], ⟨rfl, by omega, by decide, fun _ => rfl, hf, .inl (List.eq_nil_of_length_eq_zero h0)⟩, fun b o s e => by cases e⟩
  · refine ⟨some ⟨g, 0, none⟩, cap, rfl, ⟨rfl, hn, by unfold maxLen at hc; omega, (fun e => by cases e), hf, .inr ⟨g, 0, rfl, (Array.getElem?_eq_some_iff.1 hh).1, fun j hj => ?_⟩⟩, fun b o s e => ?_⟩
    · rw [cell_of_row w g (0 + j) cur _ (0, 0) hh, Nat.zero_add]
      have h1 : (cur.toList.take (xs.length * 1))[j]? = (xs)[j]? := by rw [ht]
      rw [List.getElem?_take_of_lt (by omega), List.getElem?_eq_getElem hj] at h1
      simpa using h1
    · simp only [Option.some.injEq, Addr.mk.injEq] at e
      omega
theorem VOw.lt {w : World} {B : Nat} {v : Value} {xs : List Value} (h : VOw w B v xs) : ∀ k, v.ownBlock = some k → B ≤ k := fun k hk => (h.1.lt k hk).1

theorem vrun_app_at (w : World) (ty : TypeId) (B : Nat) (v : Value) (xs : List Value) (hown : VOw w B v xs) (ad : Addr) (m c : Nat) (news : List Value) (hR : VSl w (some ad) m c news) (hmax : xs.length + m ≤ 4398046511104) (hB : B ≤ w.heap.size) :
    ∃ v' w', (Builtin.append_ #[31, 31] ty #[v, .slice (some ad) m c]).run Tryz.prog w = .ok v' w' ∧ VOw w' B v' (xs ++ news) ∧ w.grownBy w' v.ownBlock ∧ (v'.ownBlock = v.ownBlock ∨ v'.ownBlock = some w.heap.size) := by
  obtain ⟨i0, hi, hz0, hz1, hz2⟩ := info_parts infoV
  have hl : (xs ++ news).length = xs.length + m := by rw [List.length_append, hR.len]
  have hfit : Sv (xs ++ news) := sv_append hown.2 hR.fit
  have hcells : ∀ j u, (news)[j]? = some u → w.cell? (ad.add j) = some u := by
    intro j u hj
    obtain ⟨hj', rfl⟩ := List.getElem?_eq_some_iff.1 hj
    rcases hR.rd.2 with e | ⟨b, o, e, hlt, hc⟩
    · rw [e] at hj'; exact absurd hj' (by simp)
    · simp only [Option.some.injEq] at e
      rw [iadd_add ad j b o e]
      exact hc j hj'
  obtain ⟨v', w', hrun, h2, h3, _, h5⟩ := run_append_own_at (P := Tryz.prog) w B 31 ty 22 i0 _ 1 24 Tryz.underlying31 hi hz0 hz1 hz2 rfl (by decide) v xs.length (xs) hown.1 ad m c (news)
    (by rw [← hR.len]; omega) hcells (by intro u hu; obtain ⟨_, _, _, rfl⟩ := hR.fit u hu; rfl) (by unfold maxLen; omega) (by omega) hB
  refine ⟨v', w', hrun, ⟨?_, hfit⟩, h3, h5⟩
  rw [hl]
  exact h2
theorem VOw.grownBelow {w w' : World} {B : Nat} {v : Value} {xs : List Value} (h : VOw w B v xs) (hg : w.grownBy w' v.ownBlock) (hB : B ≤ w.heap.size) : Below B w w' := (Below.refl B w).grown hg hB (h.lt)

def ApO (A : Option Addr) (xs : List Int) (row : Option Nat) : Prop := xs = [] ∨ ∀ b o s, A = some ⟨b, o, s⟩ → some b ≠ row
theorem ISl.grownO {w w' : World} {A : Option Addr} {n c : Nat} {xs : List Int} {row : Option Nat} (h : ISl w A n c xs) (hg : w.grownBy w' row) (ha : ApO A xs row) : ISl w' A n c xs := by
  refine ⟨h.1, h.2.1, h.2.2.1, h.2.2.2.1, h.rd.1, ?_⟩
  rcases h.rd.2 with h0 | ⟨b, o, rfl, hlt, hc⟩
  · exact .inl h0
  · rcases ha with h0 | hne
    · exact .inl h0
    · refine .inr ⟨b, o, rfl, Nat.lt_of_lt_of_le hlt hg.size, fun j hj => ?_⟩
      exact (World.cell?_of_block (w := w) (hg.block b hlt (hne b o none rfl))).trans (hc j hj)
theorem ISl.apO {w : World} {A : Option Addr} {n c : Nat} {xs : List Int} (h : ISl w A n c xs) {row row' : Option Nat} (ha : ApO A xs row) (hr : row' = row ∨ row' = some w.heap.size) : ApO A xs row' := by
  rcases hr with rfl | rfl
  · exact ha
  · rcases h.rd.2 with h0 | ⟨b, o, rfl, hlt, _⟩
    · exact .inl h0
    · refine .inr fun b' o' s' e e2 => ?_
      simp only [Option.some.injEq, Addr.mk.injEq] at e
      simp only [Option.some.injEq] at e2
      omega
theorem VOw.apart {w : World} {B : Nat} {v : Value} {xs : List Value} (h : VOw w B v xs) {A : Option Addr} {fs : List Int} (hA : ∀ b o s, A = some ⟨b, o, s⟩ → w.heap.size ≤ b) : ApO A fs v.ownBlock := by
  refine .inr fun b o s e e2 => ?_
  have h1 := (h.1.lt b e2.symm).2
  have h2 := hA b o s e
  omega

theorem vblk_list (w : World) (xs : List Value) (hf : Sv xs) : VBlk (w.alloc (.cells (xs).toArray 22)) w.heap.size xs := ⟨heap_alloc_new w _, hf⟩
end Go.Proofs.YtnkhhndjbanmnaaGreatDoor

/- What Euclid's way is told with: rows in memory, runs, what is kept. -/
namespace Go.Proofs.YtnkhhndjbanmnaaGreatDoor
open Go.RowKit

theorem VOw.below {w w' : World} {B : Nat} {v : Value} {xs : List Value} (h : VOw w B v xs) (hb : Below w.heap.size w w') : VOw w' B v xs := by
  obtain ⟨⟨hl, h2⟩, hf⟩ := h
  refine ⟨⟨hl, ?_⟩, hf⟩
  rcases h2 with h2 | ⟨g, cap, cur, e, h3, hh, h4⟩
  · exact .inl h2
  · exact .inr ⟨g, cap, cur, e, h3, (hb.block g (Array.getElem?_eq_some_iff.1 hh).1).trans hh, h4⟩
theorem PolIn.below {p : Int} {f : Ser} {n : Nat} {w w' : World} {v : Value} (h : PolIn p f n w v) (hb : Below w.heap.size w w') : PolIn p f n w' v := by
  obtain ⟨C, m, d, ys, h1, h2, h3, h4⟩ := h
  exact ⟨C, m, d, ys, h1, h2.below hb, h3, h4⟩
theorem PolIn.mono {p : Int} {f : Ser} {n n' : Nat} {w : World} {v : Value} (h : PolIn p f n w v) (hn : n ≤ n') : PolIn p f n' w v := by
  obtain ⟨C, m, d, ys, h1, h2, h3, h4⟩ := h
  exact ⟨C, m, d, ys, h1, h2, h3, Nat.le_trans h4 hn⟩
theorem PolIn.eq {p : Int} {f g : Ser} {n : Nat} {w : World} {v : Value} (h : PolIn p f n w v) (e : Ser.Eq p f g) : PolIn p g n w v := by
  obtain ⟨C, m, d, ys, h1, h2, h3, h4⟩ := h
  exact ⟨C, m, d, ys, h1, h2, h3.eq e, h4⟩
theorem PolOut.in_ {p : Int} {f : Ser} {n : Nat} {w w' : World} {v : Value} (h : PolOut p f n w v w') : PolIn p f n w' v ∧ Below w.heap.size w w' := by
  obtain ⟨C, m, d, ys, h1, h2, h3, h4, _, h6⟩ := h
  exact ⟨⟨C, m, d, ys, h1, h2, h3, h4⟩, h6⟩

theorem PolOut.fresh {p : Int} {f : Ser} {n : Nat} {w w' : World} {v : Value} (h : PolOut p f n w v w') : FreshV w v := by
  obtain ⟨C, m, d, ys, rfl, h2, h3, h4, h5, h6⟩ := h
  exact freshV_of h5

def RowAt (w : World) (v : Value) (F : Nat → List Int) (N : Nat) : Prop :=
  ∃ A c L, v = .slice A 3 c ∧ VSl w A 3 c L ∧ ∀ k, k < 3 → ∃ C n d, L.getD k nilv = .slice C n d ∧ ISl w C n d (F k) ∧ n ≤ N
theorem RowAt.below {w w' : World} {v : Value} {F : Nat → List Int} {N : Nat} (h : RowAt w v F N) (hb : Below w.heap.size w w') : RowAt w' v F N := by
  obtain ⟨A, c, L, h1, h2, h3⟩ := h
  refine ⟨A, c, L, h1, h2.below hb, fun k hk => ?_⟩
  obtain ⟨C, n, d, k1, k2, k3⟩ := h3 k hk
  exact ⟨C, n, d, k1, k2.below hb, k3⟩
theorem RowAt.mono {w : World} {v : Value} {F : Nat → List Int} {N M : Nat} (h : RowAt w v F N) (hn : N ≤ M) : RowAt w v F M := by
  obtain ⟨A, c, L, h1, h2, h3⟩ := h
  refine ⟨A, c, L, h1, h2, fun k hk => ?_⟩
  obtain ⟨C, n, d, k1, k2, k3⟩ := h3 k hk
  exact ⟨C, n, d, k1, k2, Nat.le_trans k3 hn⟩
theorem RowAt.open_ {w : World} {v : Value} {F : Nat → List Int} {N : Nat} (h : RowAt w v F N) : ∃ (b o c : Nat) (L : List Value), v = .slice (some ⟨b, o, none⟩) 3 c ∧ 3 ≤ c ∧ c ≤ 9223372036854775807 ∧ b < w.heap.size ∧ (∀ k, k < 3 → w.cell? ⟨b, o + k, none⟩ = some (L.getD k nilv)) ∧ (∀ k, k < 3 → ∃ C n d, L.getD k nilv = .slice C n d ∧ ISl w C n d (F k) ∧ n ≤ N) := by
  obtain ⟨A, c, L, h1, h2, h3⟩ := h
  obtain ⟨b, o, rfl, hlt, hc⟩ := h2.at_ (by omega)
  exact ⟨b, o, c, L, h1, h2.le, h2.max, hlt, hc, h3⟩
def rowS (F : Nat → List Int) : ERow := ⟨cf (F 0), cf (F 1), cf (F 2)⟩
def headLen (v : Value) (w : World) : Nat :=
  match v with
  | .slice (some a) _ _ => match w.cell? a with
    | some u => slLen u
    | none => 0
  | _ => 0

def rowX (f : List Int) : Nat → List Int := fun k => if k = 0 then f else if k = 1 then [1] else []
def rowY (f : List Int) : Nat → List Int := fun k => if k = 0 then f else if k = 1 then [] else [1]
theorem isl_nil (w : World) : ISl w none 0 0 [] := ⟨rfl, Nat.le_refl _, by decide, fun _ => rfl, IRd.nil _ _⟩
def BezOut (p : Int) (a b : Ser) (N : Nat) (w : World) (v1 v2 v3 : Value) (w' : World) : Prop :=
  ∃ g s t, IsBez p a b g s t ∧ PolIn p g N w' v1 ∧ PolIn p s N w' v2 ∧ PolIn p t N w' v3 ∧ Below w.heap.size w w'

theorem EuRun.eq {p : Int} {x y o : ERow} (h : EuRun p x y o) : ∀ {x' y' : ERow}, x.Same p x' → y.Same p y' → ∃ o', EuRun p x' y' o' ∧ o.Same p o' := by
  induction h with
  | @stop x y hb => exact fun hx hy => ⟨_, .stop (hb.eq hy.1), hx⟩
  | @step x y z o m q h1 h2 h3 h4 h5 _ ih =>
    intro x' y' hx hy
    obtain ⟨o', r, e⟩ := ih hy (ERow.Same.refl p z)
    refine ⟨o', .step m q (h1.eq hy.1) (by rw [← hy.1 m]; exact h2) h3 h4 (h5.trans ⟨?_, ?_, ?_⟩) r, e⟩
    · exact less_eq hx.1 (Ser.Eq.refl _ _) hy.1
    · exact less_eq hx.2.1 (Ser.Eq.refl _ _) hy.2.1
    · exact less_eq hx.2.2 (Ser.Eq.refl _ _) hy.2.2

theorem pol_one {p : Int} (hp : Pr p) : Pol p [1] (Ser.con 1) := by
  have := hp.1
  refine ⟨⟨fun x hx => ?_, .inr ?_⟩, Ser.Eq.of (cf_one 1)⟩
  · simp at hx; omega
  · show cf [1] 0 ≠ 0
    rw [cf_cons_zero]; decide
end Go.Proofs.YtnkhhndjbanmnaaGreatDoor
