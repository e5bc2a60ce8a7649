/-
  What each function of package cplx (and its twin of the statements' own package) returns, for every input: contracts that the proofs of this seat's laws share. No conditions.
-/
import Derived.Test.YtmpninbkhaacoaaDoorRows
import Derived.Test.YtmpninbkhaacoaaDoorFlo
import Derived.WalkKit
import Derived.WalkSpells
import Derived.WalkLawsBesides
import Derived.OpenShut
namespace Go.Proofs.YtmpninbkhaacoaaDoor
open Go.RowKit Go.Flo

theorem u64_nat {a : Int} (h : (Lit.int .u64 a).wf = true) : ∃ n : Nat, a = (n : Int) ∧ n < 18446744073709551616 := by
  have hb := bounds_u64 h
  exact ⟨a.toNat, by omega, by omega⟩

theorem run_from (n : Int) (w : World) : (callFunc 11 #[.int .u64 n]).run Tryd.prog w = .ok (.value (.float .f64 n.toNat)) w := by kernel_rfl
theorem run_bits (b : Nat) (w : World) : (callFunc 21 #[.float .f64 b]).run Tryd.prog w = .ok (.value (.int .u64 b)) w := by kernel_rfl

theorem of_any (a b : Int) (w : World) : Calls Tryd.prog 13 #[.int .u64 a, .int .u64 b] w fun e w' => e = .returned (.complex .f64 a.toNat b.toNat) ∧ w = w' := by
  have h1 := run_from a
  have h2 := run_from b
  go_enter Tryd.func13, Tryd.ntmps13
  go_wp2
  go_ret
  exact ⟨rfl, rfl⟩

theorem rof_any (a b : Int) (w : World) : Calls Tryd.prog 4 #[.int .u64 a, .int .u64 b] w fun e w' => e = .returned (.complex .f64 a.toNat b.toNat) ∧ w = w' := by
  have h1 := run_from a
  have h2 := run_from b
  go_enter Tryd.func4, Tryd.ntmps4
  go_wp2
  go_ret
  exact ⟨rfl, rfl⟩

theorem words_any (a b : Nat) (w : World) : Calls Tryd.prog 15 #[.complex .f64 a b] w fun e w' => e = .returned (.tuple #[.int .u64 a, .int .u64 b]) ∧ w = w' := by
  have h1 := run_bits a
  have h2 := run_bits b
  go_enter Tryd.func15, Tryd.ntmps15
  go_wp2
  go_ret2
  exact ⟨rfl, rfl⟩

theorem rwords_any (a b : Nat) (w : World) : Calls Tryd.prog 17 #[.complex .f64 a b] w fun e w' => e = .returned (.tuple #[.int .u64 a, .int .u64 b]) ∧ w = w' := by
  have h1 := run_bits a
  have h2 := run_bits b
  go_enter Tryd.func17, Tryd.ntmps17
  go_wp2
  go_ret2
  exact ⟨rfl, rfl⟩

theorem one_any (x : Nat) (w : World) : Calls Tryd.prog 25 #[.float .f64 x] w fun e w' => e = .returned (.float .f64 (clw x)) ∧ w = w' := by
  have h1 := run_from 9221120237041090561
  by_cases h : Ieee.double.order x x = some .eq
  · have e : clw x = x := by simp [clw, h]
    have ht : (FloatKind.f64.format.order x x != some Ordering.eq) = false := by show (Ieee.double.order x x != some Ordering.eq) = false; rw [h]; rfl
    rw [e]
    clear h e
    go_enter Tryd.func25, Tryd.ntmps25
    go_wp2
    go_ret
    exact ⟨rfl, rfl⟩
  · have e : clw x = nanWord := by simp [clw, h]
    have ht : (FloatKind.f64.format.order x x != some Ordering.eq) = true := by show (Ieee.double.order x x != some Ordering.eq) = true; simpa using h
    rw [e]
    clear h e
    go_enter Tryd.func25, Tryd.ntmps25
    go_wp2
    go_ret
    exact ⟨rfl, rfl⟩

theorem parts_any (x y : Nat) (w : World) : Calls Tryd.prog 23 #[.float .f64 x, .float .f64 y] w fun e w' => e = .returned (.complex .f64 (clw x) (clw y)) ∧ w = w' := by
  go_enter Tryd.func23, Tryd.ntmps23
  go_wp2_with (go_at_call 25; refine (one_any _ _).mono ?_; rintro e w' ⟨rfl, rfl⟩)
  go_ret
  exact ⟨rfl, rfl⟩

theorem ret_cplx {a b c d : Nat} (h : a = c) (k : b = d) : Ending.returned (.complex .f64 a b) = .returned (.complex .f64 c d) := by rw [h, k]

theorem mul_any (p q r s : Nat) (w : World) : Calls Tryd.prog 19 #[.complex .f64 p q, .complex .f64 r s] w fun e w' => e = .returned (.complex .f64 (mulRe p q r s) (mulIm p q r s)) ∧ Dr w w' := by
  have h1 := fun x y w => run_far (P := Tryd.prog) .mul 31 x y w
  have h2 := fun x y w => run_far (P := Tryd.prog) .add 31 x y w
  have h3 := fun x y w => run_far (P := Tryd.prog) .sub 31 x y w
  simp only [Ar.op] at h1 h2 h3
  go_enter Tryd.func19, Tryd.ntmps19
  go_wp2_with (go_at_call 23; refine (parts_any _ _ _).mono ?_; rintro e w' ⟨rfl, rfl⟩)
  go_ret
  exact ⟨ret_cplx (mulRe_eq ..) (mulIm_eq ..), ((((((Dr.refl _).fw ..).fw ..).fw ..).fw ..).fw ..).fw ..⟩

theorem rsame_yes (a b : Nat) (w : World) : Calls Tryd.prog 9 #[.complex .f64 a b, .complex .f64 a b] w fun e w' => e = .returned (.bool true) ∧ w = w' := by
  go_enter Tryd.func9, Tryd.ntmps9
  go_wp2_with (go_at_call 17; refine (rwords_any _ _ _).mono ?_; rintro e w' ⟨rfl, rfl⟩)
  go_ret
  exact ⟨rfl, rfl⟩

theorem rsame_any (a b c d : Nat) (w : World) : Calls Tryd.prog 9 #[.complex .f64 a b, .complex .f64 c d] w fun e w' => e = .returned (.bool (decide (a = c ∧ b = d))) ∧ w = w' := by
  by_cases h : a = c
  · by_cases k : b = d
    · subst h k
      have e : decide (a = a ∧ b = b) = true := by simp
      rw [e]
      exact rsame_yes a b w
    · subst h
      have e : decide (a = a ∧ b = d) = false := by simp [k]
      have t1 : ((b : Int) == (d : Int)) = false := by simp; omega
      rw [e]
      clear e k
      go_enter Tryd.func9, Tryd.ntmps9
      go_wp2_with (go_at_call 17; refine (rwords_any _ _ _).mono ?_; rintro e w' ⟨rfl, rfl⟩)
      go_ret
      exact ⟨rfl, rfl⟩
  · have e : decide (a = c ∧ b = d) = false := by simp [h]
    have t1 : ((a : Int) == (c : Int)) = false := by simp; omega
    rw [e]
    clear e h
    go_enter Tryd.func9, Tryd.ntmps9
    go_wp2_with (go_at_call 17; refine (rwords_any _ _ _).mono ?_; rintro e w' ⟨rfl, rfl⟩)
    go_ret
    exact ⟨rfl, rfl⟩

theorem rsame_no (a b c d : Nat) (h : ¬ (a = c ∧ b = d)) (w : World) : Calls Tryd.prog 9 #[.complex .f64 a b, .complex .f64 c d] w fun e w' => e = .returned (.bool false) ∧ w = w' := by
  have k := rsame_any a b c d w
  rw [show decide (a = c ∧ b = d) = false from decide_eq_false h] at k
  exact k

theorem awake_any (w : World) : Calls Tryd.prog 10 #[] w fun e w' => e = .returned (.bool true) ∧ Dr w w' := by
  have e1 : mulRe 4607182418800017408 4611686018427387904 4613937818241073152 4616189618054758400 = 13840687554816376832 := by decide +kernel
  have e2 : mulIm 4607182418800017408 4611686018427387904 4613937818241073152 4616189618054758400 = 4621819117588971520 := by decide +kernel
  have t1 : (FloatKind.f64.format.order 13840687554816376832 13840687554816376832 == some Ordering.eq) = true := by decide +kernel
  have t2 : (FloatKind.f64.format.order 4621819117588971520 4621819117588971520 == some Ordering.eq) = true := by decide +kernel
  have hm := mul_any 4607182418800017408 4611686018427387904 4613937818241073152 4616189618054758400
  rw [e1, e2] at hm
  clear e1 e2
  go_enter Tryd.func10, Tryd.ntmps10
  go_wp2_with (go_at_call 19; refine (hm _).mono ?_; clear hm; rintro e w' ⟨rfl, hd⟩)
  go_ret
  exact ⟨rfl, hd⟩

end Go.Proofs.YtmpninbkhaacoaaDoor
