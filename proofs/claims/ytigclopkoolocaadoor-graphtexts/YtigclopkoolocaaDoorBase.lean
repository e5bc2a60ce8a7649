/-
  What each function of package cplx (and its twin of the statements' own package) returns, for every input: contracts that the proofs of this seat's laws share. No conditions.
-/
import Derived.Test.YtigclopkoolocaaDoorRows
import Derived.Test.YtigclopkoolocaaDoorFlo
import Derived.WalkKit
import Derived.WalkSpells
import Derived.WalkLawsBesides
import Derived.OpenShut
namespace Go.Proofs.YtigclopkoolocaaDoor
open Go.RowKit Go.Flo

theorem u64_nat {a : Int} (h : (Lit.int .u64 a).wf = true) : ∃ n : Nat, a = (n : Int) ∧ n < 18446744073709551616 := by
  have hb := bounds_u64 h
  exact ⟨a.toNat, by omega, by omega⟩

theorem run_from (n : Int) (w : World) : (callFunc 57 #[.int .u64 n]).run Tryd.prog w = .ok (.value (.float .f64 n.toNat)) w := by kernel_rfl
theorem run_bits (b : Nat) (w : World) : (callFunc 68 #[.float .f64 b]).run Tryd.prog w = .ok (.value (.int .u64 b)) w := by kernel_rfl

theorem rof_any (a b : Int) (w : World) : Calls Tryd.prog 48 #[.int .u64 a, .int .u64 b] w fun e w' => e = .returned (.complex .f64 a.toNat b.toNat) ∧ w = w' := by
  have h1 := run_from a
  have h2 := run_from b
  go_enter Tryd.func48, Tryd.ntmps48
  go_wp2
  go_ret
  exact ⟨rfl, rfl⟩

theorem rwords_any (a b : Nat) (w : World) : Calls Tryd.prog 55 #[.complex .f64 a b] w fun e w' => e = .returned (.tuple #[.int .u64 a, .int .u64 b]) ∧ w = w' := by
  have h1 := run_bits a
  have h2 := run_bits b
  go_enter Tryd.func55, Tryd.ntmps55
  go_wp2
  go_ret2
  exact ⟨rfl, rfl⟩

theorem ret_cplx {a b c d : Nat} (h : a = c) (k : b = d) : Ending.returned (.complex .f64 a b) = .returned (.complex .f64 c d) := by rw [h, k]

/-- The sign bit turned. -/
def cjw (b : Nat) : Nat := (bits BinOp.xor IntKind.u64 (b : Int) 9223372036854775808).toNat

theorem cjw_eq {b : Nat} (h : b < 18446744073709551616) : cjw b = b ^^^ 9223372036854775808 := by
  unfold cjw
  have := bits_xor_u64_nat b 9223372036854775808 h (by decide)
  rw [show ((9223372036854775808 : Int)) = ((9223372036854775808 : Nat) : Int) from rfl, this]
  rfl

end Go.Proofs.YtigclopkoolocaaDoor
