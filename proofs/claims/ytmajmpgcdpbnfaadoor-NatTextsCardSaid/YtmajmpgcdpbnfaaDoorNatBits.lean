/- math/bits.Mul64, Add64, Sub64 at this translation, and the closures that carry a limb on, by their contracts. -/
import Derived.Test.YtmajmpgcdpbnfaaDoorNatTrim
import Derived.Test.YtmajmpgcdpbnfaaDoorShelf
import Derived.Laws.Externs
import Derived.Shelf.Spec.BitsCarry
import Derived.OneCell
namespace Go.Proofs.YtmajmpgcdpbnfaaDoor
open Go.RowKit Go.Lib

/-- The two halves of a product. -/
def Halves (x y hi lo : Nat) : Prop := hi < 18446744073709551616 ∧ lo < 18446744073709551616 ∧ hi * 18446744073709551616 + lo = x * y

theorem mul64_any (x y : Nat) (hx : x < 18446744073709551616) (hy : y < 18446744073709551616) (w : World) :
    Calls Tryd.prog 29 #[.int .u64 x, .int .u64 y] w fun e w' => ∃ hi lo : Nat, e = .returned (.tuple #[.int .u64 (hi : Int), .int .u64 (lo : Int)]) ∧ Halves x y hi lo ∧ w = w' :=
  (Tryd.bits_Mul64 x y hx hy w).mono fun e w' ⟨he, hw⟩ => ⟨_, _, he, ⟨by
    have h1 : x * y ≤ 18446744073709551615 * 18446744073709551615 := Nat.mul_le_mul (by omega) (by omega)
    exact Nat.div_lt_of_lt_mul (by omega), Nat.mod_lt _ (by decide), by rw [Nat.mul_comm]; exact Nat.div_add_mod _ _⟩, hw.symm⟩

theorem add64_run (x y c : Int) (hx : 0 ≤ x) (hy : 0 ≤ y) (hc0 : 0 ≤ c) (hc : c ≤ 1) (w : World) : (callFunc 30 #[.int .u64 x, .int .u64 y, .int .u64 c]).run Tryd.prog w =
    .ok (.value (.tuple #[.int .u64 ((x + y + c) % 18446744073709551616), .int .u64 ((x + y + c) / 18446744073709551616)])) w := by
  rw [run_callFunc_extern Tryd.func30 (by kernel_rfl) (by kernel_rfl) (by kernel_rfl) (e := add64Entry) (by kernel_rfl), run_add64 x y c hx hy hc0 hc]
  rfl
theorem add64_a (x y : Nat) (w : World) : (callFunc 30 #[.int .u64 (x : Int), .int .u64 (y : Int), .int .u64 0]).run Tryd.prog w =
    .ok (.value (.tuple #[.int .u64 (((x : Int) + (y : Int)) % 18446744073709551616), .int .u64 (((x : Int) + (y : Int)) / 18446744073709551616)])) w := by
  simpa using add64_run x y 0 (by omega) (by omega) (by omega) (by omega) w
theorem add64_b (x y z : Nat) (w : World) : (callFunc 30 #[.int .u64 (((x : Int) + (y : Int)) % 18446744073709551616), .int .u64 (z : Int), .int .u64 0]).run Tryd.prog w =
    .ok (.value (.tuple #[.int .u64 ((((x : Int) + (y : Int)) % 18446744073709551616 + (z : Int)) % 18446744073709551616), .int .u64 ((((x : Int) + (y : Int)) % 18446744073709551616 + (z : Int)) / 18446744073709551616)])) w := by
  simpa using add64_run (((x : Int) + (y : Int)) % 18446744073709551616) z 0 (by omega) (by omega) (by omega) (by omega) w

/-- The borrow, under a name: an 'if' that stands open parts the walk. -/
def bor (x y : Int) : Int := if x < y then 1 else 0

/-- What addTimes' closure reckons. -/
theorem add_step (l m c h hi lo : Nat) (H : Halves l m hi lo) (hl : l < 18446744073709551616) (hm : m < 18446744073709551616) (hc : c < 18446744073709551616) (hh : h < 18446744073709551616) :
    (((lo : Int) + (c : Int) + (h : Int)) % 18446744073709551616 = ((h + l * m + c) % 18446744073709551616 : Nat)) ∧
    IntKind.u64.wrap (IntKind.u64.wrap ((hi : Int) + ((lo : Int) + (c : Int)) / 18446744073709551616) + (((lo : Int) + (c : Int)) % 18446744073709551616 + (h : Int)) / 18446744073709551616) = ((h + l * m + c) / 18446744073709551616 : Nat) := by
  obtain ⟨h1, h2, h3⟩ := H
  have hb : l * m ≤ 18446744073709551615 * 18446744073709551615 := Nat.mul_le_mul (by omega) (by omega)
  rw [← h3] at hb ⊢
  simp only [IntKind.wrap_u64]
  omega

theorem add_step_lt (l m c h : Nat) (hl : l < 18446744073709551616) (hm : m < 18446744073709551616) (hc : c < 18446744073709551616) (hh : h < 18446744073709551616) : (h + l * m + c) / 18446744073709551616 < 18446744073709551616 := by
  have hb : l * m ≤ 18446744073709551615 * 18446744073709551615 := Nat.mul_le_mul (by omega) (by omega)
  omega

/-- What takeTimes' closure reckons: the limb that is left, and what must still be taken. -/
def tkLimb (l m c h : Nat) : Nat := (h + 18446744073709551616 - (l * m + c) % 18446744073709551616) % 18446744073709551616
def tkCarry (l m c h : Nat) : Nat := (l * m + c) / 18446744073709551616 + (if h < (l * m + c) % 18446744073709551616 then 1 else 0)
theorem tk_spec (l m c h : Nat) (hh : h < 18446744073709551616) : h + 18446744073709551616 * tkCarry l m c h = tkLimb l m c h + (l * m + c) := by
  unfold tkCarry tkLimb
  generalize l * m + c = s
  split <;> omega
theorem tk_limb_lt (l m c h : Nat) : tkLimb l m c h < 18446744073709551616 := Nat.mod_lt _ (by decide)
theorem tk_carry_lt (l m c h : Nat) (hl : l < 18446744073709551616) (hm : m < 18446744073709551616) (hc : c < 18446744073709551616) : tkCarry l m c h < 18446744073709551616 := by
  have hb : l * m ≤ 18446744073709551615 * 18446744073709551615 := Nat.mul_le_mul (by omega) (by omega)
  unfold tkCarry
  split <;> omega
theorem take_step (l m c h hi lo : Nat) (H : Halves l m hi lo) (hl : l < 18446744073709551616) (hm : m < 18446744073709551616) (hc : c < 18446744073709551616) (hh : h < 18446744073709551616) :
    (((h : Int) - ((lo : Int) + (c : Int))) % 18446744073709551616 = (tkLimb l m c h : Nat)) ∧
    IntKind.u64.wrap (IntKind.u64.wrap ((hi : Int) + ((lo : Int) + (c : Int)) / 18446744073709551616) + bor h (((lo : Int) + (c : Int)) % 18446744073709551616)) = (tkCarry l m c h : Nat) := by
  obtain ⟨h1, h2, h3⟩ := H
  have hb : l * m ≤ 18446744073709551615 * 18446744073709551615 := Nat.mul_le_mul (by omega) (by omega)
  unfold tkLimb tkCarry bor
  rw [← h3] at hb ⊢
  simp only [IntKind.wrap_u64]
  split <;> split <;> omega

set_option maxHeartbeats 400000 in
theorem addNext_any (bm bc : Nat) (l m c h : Nat) (w : World) (hl : l < 18446744073709551616) (hm : m < 18446744073709551616) (hc : c < 18446744073709551616) (hh : h < 18446744073709551616)
    (cm : w.cell? ⟨bm, 0, none⟩ = some (u64v m)) (cc : w.cell? ⟨bc, 0, none⟩ = some (u64v c)) (fc : w.frozen? ⟨bc, 0, none⟩ = false) :
    Calls Tryd.prog 28 #[.int .u64 (h : Int), .int .u64 (l : Int), .pointer (some ⟨bm, 0, none⟩), .pointer (some ⟨bc, 0, none⟩)] w fun e w' =>
      e = .returned (u64v ((h + l * m + c) % 18446744073709551616)) ∧ w.setCell ⟨bc, 0, none⟩ (u64v ((h + l * m + c) / 18446744073709551616)) = w' := by
  go_enter Tryd.func28, Tryd.ntmps28
  go_wp2_with (first | (go_at_call 29; refine (mul64_any l m hl hm w).mono ?_; rintro e w' ⟨hi, lo, rfl, HX, rfl⟩; have HX' := Lib.hid HX; clear HX) | simp only [add64_a] | simp only [add64_b])
  go_ret
  obtain ⟨s1, s2⟩ := add_step l m c h hi lo HX'.out hl hm hc hh
  refine ⟨?_, ?_⟩
  · show Ending.returned (.int .u64 _) = _
    rw [s1]
  · rw [s2]

end Go.Proofs.YtmajmpgcdpbnfaaDoor
