/-
  What each function of package cplx (and its twin of the statements' own package) returns, for every input: contracts that the proofs of this seat's laws share. No conditions.
-/
import Derived.Test.YtjnaglellobmmaaDoorRows
import Derived.Test.YtjnaglellobmmaaDoorFlo
import Derived.WalkKit
import Derived.WalkSpells
import Derived.WalkLawsBesides
import Derived.OpenShut
namespace Go.Proofs.YtjnaglellobmmaaDoor
open Go.RowKit Go.Flo

theorem u64_nat {a : Int} (h : (Lit.int .u64 a).wf = true) : ∃ n : Nat, a = (n : Int) ∧ n < 18446744073709551616 := by
  have hb := bounds_u64 h
  exact ⟨a.toNat, by omega, by omega⟩

theorem run_from (n : Int) (w : World) : (callFunc 32 #[.int .u64 n]).run Tryd.prog w = .ok (.value (.float .f64 n.toNat)) w := by kernel_rfl
theorem run_bits (b : Nat) (w : World) : (callFunc 47 #[.float .f64 b]).run Tryd.prog w = .ok (.value (.int .u64 b)) w := by kernel_rfl

theorem of_any (a b : Int) (w : World) : Calls Tryd.prog 33 #[.int .u64 a, .int .u64 b] w fun e w' => e = .returned (.complex .f64 a.toNat b.toNat) ∧ w = w' := by
  have h1 := run_from a
  have h2 := run_from b
  go_enter Tryd.func33, Tryd.ntmps33
  go_wp2
  go_ret
  exact ⟨rfl, rfl⟩

theorem rof_any (a b : Int) (w : World) : Calls Tryd.prog 12 #[.int .u64 a, .int .u64 b] w fun e w' => e = .returned (.complex .f64 a.toNat b.toNat) ∧ w = w' := by
  have h1 := run_from a
  have h2 := run_from b
  go_enter Tryd.func12, Tryd.ntmps12
  go_wp2
  go_ret
  exact ⟨rfl, rfl⟩

theorem words_any (a b : Nat) (w : World) : Calls Tryd.prog 30 #[.complex .f64 a b] w fun e w' => e = .returned (.tuple #[.int .u64 a, .int .u64 b]) ∧ w = w' := by
  have h1 := run_bits a
  have h2 := run_bits b
  go_enter Tryd.func30, Tryd.ntmps30
  go_wp2
  go_ret2
  exact ⟨rfl, rfl⟩

theorem rwords_any (a b : Nat) (w : World) : Calls Tryd.prog 34 #[.complex .f64 a b] w fun e w' => e = .returned (.tuple #[.int .u64 a, .int .u64 b]) ∧ w = w' := by
  have h1 := run_bits a
  have h2 := run_bits b
  go_enter Tryd.func34, Tryd.ntmps34
  go_wp2
  go_ret2
  exact ⟨rfl, rfl⟩

theorem ret_cplx {a b c d : Nat} (h : a = c) (k : b = d) : Ending.returned (.complex .f64 a b) = .returned (.complex .f64 c d) := by rw [h, k]

theorem rsame_yes (a b : Nat) (w : World) : Calls Tryd.prog 15 #[.complex .f64 a b, .complex .f64 a b] w fun e w' => e = .returned (.bool true) ∧ w = w' := by
  go_enter Tryd.func15, Tryd.ntmps15
  go_wp2_with (go_at_call 34; refine (rwords_any _ _ _).mono ?_; rintro e w' ⟨rfl, rfl⟩)
  go_ret
  exact ⟨rfl, rfl⟩

theorem rsame_any (a b c d : Nat) (w : World) : Calls Tryd.prog 15 #[.complex .f64 a b, .complex .f64 c d] w fun e w' => e = .returned (.bool (decide (a = c ∧ b = d))) ∧ w = w' := by
  by_cases h : a = c
  · by_cases k : b = d
    · subst h k
      have e : decide (a = a ∧ b = b) = true := by simp
      rw [e]
      exact rsame_yes a b w
    · subst h
      have e : decide (a = a ∧ b = d) = false := by simp [k]
      have t1 : ((b : Int) == (d : Int)) = false := by simp; omega
      rw [e]
      clear e k
      go_enter Tryd.func15, Tryd.ntmps15
      go_wp2_with (go_at_call 34; refine (rwords_any _ _ _).mono ?_; rintro e w' ⟨rfl, rfl⟩)
      go_ret
      exact ⟨rfl, rfl⟩
  · have e : decide (a = c ∧ b = d) = false := by simp [h]
    have t1 : ((a : Int) == (c : Int)) = false := by simp; omega
    rw [e]
    clear e h
    go_enter Tryd.func15, Tryd.ntmps15
    go_wp2_with (go_at_call 34; refine (rwords_any _ _ _).mono ?_; rintro e w' ⟨rfl, rfl⟩)
    go_ret
    exact ⟨rfl, rfl⟩

theorem rsame_no (a b c d : Nat) (h : ¬ (a = c ∧ b = d)) (w : World) : Calls Tryd.prog 15 #[.complex .f64 a b, .complex .f64 c d] w fun e w' => e = .returned (.bool false) ∧ w = w' := by
  have k := rsame_any a b c d w
  rw [show decide (a = c ∧ b = d) = false from decide_eq_false h] at k
  exact k

/-- The sign bit turned. -/
def cjw (b : Nat) : Nat := (bits BinOp.xor IntKind.u64 (b : Int) 9223372036854775808).toNat

theorem cjw_eq {b : Nat} (h : b < 18446744073709551616) : cjw b = b ^^^ 9223372036854775808 := by
  unfold cjw
  have := bits_xor_u64_nat b 9223372036854775808 h (by decide)
  rw [show ((9223372036854775808 : Int)) = ((9223372036854775808 : Nat) : Int) from rfl, this]
  rfl

end Go.Proofs.YtjnaglellobmmaaDoor
