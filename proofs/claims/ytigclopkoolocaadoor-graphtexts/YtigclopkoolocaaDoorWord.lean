/-
  What each function of package word (and its twin of the statements' own package) returns, for every input: contracts that the proofs of this seat's laws share. No conditions.
-/
import Derived.Test.YtigclopkoolocaaDoorRows
import Derived.Test.YtigclopkoolocaaDoorBit
import Derived.WalkKit
import Derived.WalkSpells
import Derived.WalkLawsBesides
import Derived.OpenShut
import Derived.Test.YtigclopkoolocaaDoorDraw
import Derived.WalkMore
import Derived.ScopeJumps
import Derived.Lib.Hide
namespace Go.Proofs.YtigclopkoolocaaDoor
open Go.RowKit Go.Bit Go.Flo

theorem u64_nat {a : Int} (h : (Lit.int .u64 a).wf = true) : ∃ n : Nat, a = (n : Int) ∧ n < 18446744073709551616 := by
  have hb := bounds_u64 h
  exact ⟨a.toNat, by omega, by omega⟩

/-- A number made small, as a law does it: int(uint64(a) % m). -/
theorem slot_mod (a : Int) (m : Nat) (hm : 0 < m) (hm' : m ≤ 65) : ∃ f : Nat, f < m ∧ wrap64 ((IntKind.u64.wrap a).tmod m) = f := by
  have e : IntKind.u64.wrap a = ((a % 18446744073709551616).toNat : Int) := by rw [IntKind.wrap_u64]; omega
  have h : (a % 18446744073709551616).toNat % m < m := Nat.mod_lt _ hm
  refine ⟨(a % 18446744073709551616).toNat % m, h, ?_⟩
  rw [e, ← Int.ofNat_tmod]
  unfold wrap64
  omega

/-- The bits asked for stand in a word. -/
def Fits (f n : Int) : Prop := 0 ≤ f ∧ 0 ≤ n ∧ n ≤ 64 - f

theorem comp_xor (x : Nat) (hx : x < 18446744073709551616) : 18446744073709551615 ^^^ x = 18446744073709551615 - x := by
  refine Nat.eq_of_testBit_eq fun i => ?_
  have h := comp_bit 0 i (by decide)
  rw [Nat.sub_zero, Nat.zero_testBit] at h
  rw [comp_bit x i hx, Nat.testBit_xor, h]
  by_cases c : i < 64
  · simp [c]
  · simp [c, hi_bit x i hx (by omega)]

theorem pow_le64 (n : Nat) (h : n ≤ 64) : (2 : Nat) ^ n ≤ 18446744073709551616 := by
  have h4 : (2 : Nat) ^ 64 = 18446744073709551616 := by decide
  rw [← h4]
  exact Nat.pow_le_pow_right (by decide) h

theorem mask_eq (n : Nat) (h : n ≤ 64) : bits BinOp.xor IntKind.u64 IntKind.u64.max (IntKind.u64.wrap (18446744073709551615 * 2 ^ n)) = ((2 ^ n - 1 : Nat) : Int) := by
  have h1 := pow_le64 n h
  have h0 := Nat.two_pow_pos n
  have e : IntKind.u64.wrap (18446744073709551615 * 2 ^ n) = ((18446744073709551616 - 2 ^ n : Nat) : Int) := by
    rw [IntKind.wrap_u64]
    have e2 : ((2 : Int) ^ n) = ((2 ^ n : Nat) : Int) := by simp
    rw [e2]
    generalize 2 ^ n = p at h0 h1
    omega
  have e3 : IntKind.u64.max = ((18446744073709551615 : Nat) : Int) := by decide
  rw [e, e3, u64_xor_nat _ _ (by decide) (by omega), comp_xor _ (by omega)]
  congr 1
  omega

theorem ret_u64 {a b : Int} (h : a = b) : Ending.returned (.int .u64 a) = .returned (.int .u64 b) := by rw [h]
theorem ret_i64 {a b : Int} (h : a = b) : Ending.returned (.int .i64 a) = .returned (.int .i64 b) := by rw [h]

theorem and_mask (a n : Nat) (ha : a < 18446744073709551616) (h : n ≤ 64) : bits BinOp.and IntKind.u64 (a : Int) ((2 ^ n - 1 : Nat) : Int) = ((a % 2 ^ n : Nat) : Int) := by
  have h1 := pow_le64 n h
  have h0 := Nat.two_pow_pos n
  rw [u64_and_nat _ _ ha (by omega), Nat.and_two_pow_sub_one_eq_mod]

theorem div_cast (a n : Nat) : ((a : Int) / 2 ^ n) = ((a / 2 ^ n : Nat) : Int) := by simp

theorem and_one (a : Nat) (ha : a < 18446744073709551616) : bits BinOp.and IntKind.u64 (a : Int) 1 = ((a % 2 : Nat) : Int) := and_mask a 1 ha (by decide)

theorem or_bit (g b : Nat) (hg : g * 2 < 18446744073709551616) (hb : b < 2) : bits BinOp.or IntKind.u64 (IntKind.u64.wrap ((g : Int) * 2)) (b : Int) = ((g * 2 + b : Nat) : Int) := by
  have e : IntKind.u64.wrap ((g : Int) * 2) = ((g * 2 : Nat) : Int) := by rw [IntKind.wrap_u64]; omega
  rw [e, u64_or_nat _ _ hg (by omega), nat_join 1 _ _ (by omega) hb]

theorem div_lt64 (a n : Nat) (h : a < 18446744073709551616) : a / 2 ^ n < 18446744073709551616 := Nat.lt_of_le_of_lt (Nat.div_le_self _ _) h

theorem bit_test (x k : Nat) (hx : x < 18446744073709551616) : (bits BinOp.and IntKind.u64 ((x : Int) / 2 ^ k) 1 == 1) = decide (x / 2 ^ k % 2 = 1) := by
  rw [div_cast, and_one _ (div_lt64 _ _ hx)]
  generalize x / 2 ^ k % 2 = r
  rw [Bool.eq_iff_iff]
  simp
  omega

theorem shl_field (a f n : Nat) (h : f + n ≤ 64) (ha : a < 2 ^ n) : IntKind.u64.wrap ((a : Int) * 2 ^ f) = ((a * 2 ^ f : Nat) : Int) := by
  have h1 := field_lt f n h a ha
  have e : ((a : Int) * 2 ^ f) = ((a * 2 ^ f : Nat) : Int) := by simp
  rw [e, IntKind.wrap_u64]
  omega

theorem set_bits (x f n v : Nat) (hx : x < 18446744073709551616) (hv : v < 18446744073709551616) (h : f + n ≤ 64) :
    bits BinOp.or IntKind.u64 (bits BinOp.andNot IntKind.u64 (x : Int) (IntKind.u64.wrap (((2 ^ n - 1 : Nat) : Int) * 2 ^ f)))
      (IntKind.u64.wrap (bits BinOp.and IntKind.u64 (v : Int) ((2 ^ n - 1 : Nat) : Int) * 2 ^ f)) = ((setN x f n v : Nat) : Int) := by
  have hm := Nat.mod_lt v (Nat.two_pow_pos n)
  have hl := two_pow_pred_lt n
  rw [and_mask _ _ hv (by omega), shl_field _ f n h hm, shl_field _ f n h hl, u64_andNot_nat _ _ hx (field_lt f n h _ hl),
    u64_or_nat _ _ (and_lt64 _ _ hx) (field_lt f n h _ hm)]
  rfl

end Go.Proofs.YtigclopkoolocaaDoor
