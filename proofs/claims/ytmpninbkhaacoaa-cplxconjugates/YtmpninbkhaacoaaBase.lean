/-
  What each function of package cplx (and its twin of the statements' own package) returns, for every input: contracts that the proofs of this seat's laws share. No conditions.
-/
import Derived.Test.YtmpninbkhaacoaaRows
import Derived.Test.YtmpninbkhaacoaaFlo
import Derived.WalkKit
import Derived.WalkSpells
import Derived.WalkLawsBesides
import Derived.OpenShut
namespace Go.Proofs.Ytmpninbkhaacoaa
open Go.RowKit Go.Flo

theorem u64_nat {a : Int} (h : (Lit.int .u64 a).wf = true) : ∃ n : Nat, a = (n : Int) ∧ n < 18446744073709551616 := by
  have hb := bounds_u64 h
  exact ⟨a.toNat, by omega, by omega⟩

theorem run_from (n : Int) (w : World) : (callFunc 31 #[.int .u64 n]).run Try.prog w = .ok (.value (.float .f64 n.toNat)) w := by kernel_rfl
theorem run_bits (b : Nat) (w : World) : (callFunc 32 #[.float .f64 b]).run Try.prog w = .ok (.value (.int .u64 b)) w := by kernel_rfl

theorem of_any (a b : Int) (w : World) : Calls Try.prog 13 #[.int .u64 a, .int .u64 b] w fun e w' => e = .returned (.complex .f64 a.toNat b.toNat) ∧ w = w' := by
  have h1 := run_from a
  have h2 := run_from b
  go_enter Try.func13, Try.ntmps13
  go_wp2
  go_ret
  exact ⟨rfl, rfl⟩

theorem rof_any (a b : Int) (w : World) : Calls Try.prog 16 #[.int .u64 a, .int .u64 b] w fun e w' => e = .returned (.complex .f64 a.toNat b.toNat) ∧ w = w' := by
  have h1 := run_from a
  have h2 := run_from b
  go_enter Try.func16, Try.ntmps16
  go_wp2
  go_ret
  exact ⟨rfl, rfl⟩

theorem words_any (a b : Nat) (w : World) : Calls Try.prog 14 #[.complex .f64 a b] w fun e w' => e = .returned (.tuple #[.int .u64 a, .int .u64 b]) ∧ w = w' := by
  have h1 := run_bits a
  have h2 := run_bits b
  go_enter Try.func14, Try.ntmps14
  go_wp2
  go_ret2
  exact ⟨rfl, rfl⟩

theorem rwords_any (a b : Nat) (w : World) : Calls Try.prog 33 #[.complex .f64 a b] w fun e w' => e = .returned (.tuple #[.int .u64 a, .int .u64 b]) ∧ w = w' := by
  have h1 := run_bits a
  have h2 := run_bits b
  go_enter Try.func33, Try.ntmps33
  go_wp2
  go_ret2
  exact ⟨rfl, rfl⟩

theorem one_any (x : Nat) (w : World) : Calls Try.prog 39 #[.float .f64 x] w fun e w' => e = .returned (.float .f64 (clw x)) ∧ w = w' := by
  have h1 := run_from 9221120237041090561
  by_cases h : Ieee.double.order x x = some .eq
  · have e : clw x = x := by simp [clw, h]
    have ht : (FloatKind.f64.format.order x x != some Ordering.eq) = false := by show (Ieee.double.order x x != some Ordering.eq) = false; rw [h]; rfl
    rw [e]
    clear h e
    go_enter Try.func39, Try.ntmps39
    go_wp2
    go_ret
    exact ⟨rfl, rfl⟩
  · have e : clw x = nanWord := by simp [clw, h]
    have ht : (FloatKind.f64.format.order x x != some Ordering.eq) = true := by show (Ieee.double.order x x != some Ordering.eq) = true; simpa using h
    rw [e]
    clear h e
    go_enter Try.func39, Try.ntmps39
    go_wp2
    go_ret
    exact ⟨rfl, rfl⟩

theorem clean_any (x : Nat) (w : World) : Calls Try.prog 35 #[.float .f64 x] w fun e w' => e = .returned (.float .f64 (clw x)) ∧ w = w' := by
  have h1 := run_from 9221120237041090561
  by_cases h : Ieee.double.order x x = some .eq
  · have e : clw x = x := by simp [clw, h]
    have ht : (FloatKind.f64.format.order x x != some Ordering.eq) = false := by show (Ieee.double.order x x != some Ordering.eq) = false; rw [h]; rfl
    rw [e]
    clear h e
    go_enter Try.func35, Try.ntmps35
    go_wp2
    go_ret
    exact ⟨rfl, rfl⟩
  · have e : clw x = nanWord := by simp [clw, h]
    have ht : (FloatKind.f64.format.order x x != some Ordering.eq) = true := by show (Ieee.double.order x x != some Ordering.eq) = true; simpa using h
    rw [e]
    clear h e
    go_enter Try.func35, Try.ntmps35
    go_wp2
    go_ret
    exact ⟨rfl, rfl⟩

theorem parts_any (x y : Nat) (w : World) : Calls Try.prog 34 #[.float .f64 x, .float .f64 y] w fun e w' => e = .returned (.complex .f64 (clw x) (clw y)) ∧ w = w' := by
  go_enter Try.func34, Try.ntmps34
  go_wp2_with (go_at_call 39; refine (one_any _ _).mono ?_; rintro e w' ⟨rfl, rfl⟩)
  go_ret
  exact ⟨rfl, rfl⟩

theorem ret_cplx {a b c d : Nat} (h : a = c) (k : b = d) : Ending.returned (.complex .f64 a b) = .returned (.complex .f64 c d) := by rw [h, k]

theorem add_any (a b c d : Nat) (w : World) : Calls Try.prog 19 #[.complex .f64 a b, .complex .f64 c d] w fun e w' => e = .returned (.complex .f64 (addP a c) (addP b d)) ∧ Dr w w' := by
  have h1 := fun w => run_far (P := Try.prog) .add 37 a c w
  have h2 := fun w => run_far (P := Try.prog) .add 37 b d w
  simp only [Ar.op] at h1 h2
  go_enter Try.func19, Try.ntmps19
  go_wp2_with (go_at_call 34; refine (parts_any _ _ _).mono ?_; rintro e w' ⟨rfl, rfl⟩)
  go_ret
  exact ⟨ret_cplx (addP_eq ..) (addP_eq ..), ((Dr.refl _).fw ..).fw ..⟩

theorem radd_any (a b c d : Nat) (w : World) : Calls Try.prog 20 #[.complex .f64 a b, .complex .f64 c d] w fun e w' => e = .returned (.complex .f64 (addP a c) (addP b d)) ∧ Dr w w' := by
  have h1 := fun w => run_far (P := Try.prog) .add 37 a c w
  have h2 := fun w => run_far (P := Try.prog) .add 37 b d w
  simp only [Ar.op] at h1 h2
  go_enter Try.func20, Try.ntmps20
  go_wp2_with (go_at_call 35; refine (clean_any _ _).mono ?_; rintro e w' ⟨rfl, rfl⟩)
  go_ret
  exact ⟨ret_cplx (addP_eq ..) (addP_eq ..), ((Dr.refl _).fw ..).fw ..⟩

theorem mul_any (p q r s : Nat) (w : World) : Calls Try.prog 21 #[.complex .f64 p q, .complex .f64 r s] w fun e w' => e = .returned (.complex .f64 (mulRe p q r s) (mulIm p q r s)) ∧ Dr w w' := by
  have h1 := fun x y w => run_far (P := Try.prog) .mul 37 x y w
  have h2 := fun x y w => run_far (P := Try.prog) .add 37 x y w
  have h3 := fun x y w => run_far (P := Try.prog) .sub 37 x y w
  simp only [Ar.op] at h1 h2 h3
  go_enter Try.func21, Try.ntmps21
  go_wp2_with (go_at_call 34; refine (parts_any _ _ _).mono ?_; rintro e w' ⟨rfl, rfl⟩)
  go_ret
  exact ⟨ret_cplx (mulRe_eq ..) (mulIm_eq ..), ((((((Dr.refl _).fw ..).fw ..).fw ..).fw ..).fw ..).fw ..⟩

theorem rmul_any (p q r s : Nat) (w : World) : Calls Try.prog 22 #[.complex .f64 p q, .complex .f64 r s] w fun e w' => e = .returned (.complex .f64 (mulRe p q r s) (mulIm p q r s)) ∧ Dr w w' := by
  have h1 := fun x y w => run_far (P := Try.prog) .mul 37 x y w
  have h2 := fun x y w => run_far (P := Try.prog) .add 37 x y w
  have h3 := fun x y w => run_far (P := Try.prog) .sub 37 x y w
  simp only [Ar.op] at h1 h2 h3
  go_enter Try.func22, Try.ntmps22
  go_wp2_with (go_at_call 35; refine (clean_any _ _).mono ?_; rintro e w' ⟨rfl, rfl⟩)
  go_ret
  exact ⟨ret_cplx (mulRe_eq ..) (mulIm_eq ..), ((((((Dr.refl _).fw ..).fw ..).fw ..).fw ..).fw ..).fw ..⟩

theorem same_yes (a b : Nat) (w : World) : Calls Try.prog 17 #[.complex .f64 a b, .complex .f64 a b] w fun e w' => e = .returned (.bool true) ∧ w = w' := by
  go_enter Try.func17, Try.ntmps17
  go_wp2_with (go_at_call 14; refine (words_any _ _ _).mono ?_; rintro e w' ⟨rfl, rfl⟩)
  go_ret
  exact ⟨rfl, rfl⟩

theorem same_any (a b c d : Nat) (w : World) : Calls Try.prog 17 #[.complex .f64 a b, .complex .f64 c d] w fun e w' => e = .returned (.bool (decide (a = c ∧ b = d))) ∧ w = w' := by
  by_cases h : a = c
  · by_cases k : b = d
    · subst h k
      have e : decide (a = a ∧ b = b) = true := by simp
      rw [e]
      exact same_yes a b w
    · subst h
      have e : decide (a = a ∧ b = d) = false := by simp [k]
      have t1 : ((b : Int) == (d : Int)) = false := by simp; omega
      rw [e]
      clear e k
      go_enter Try.func17, Try.ntmps17
      go_wp2_with (go_at_call 14; refine (words_any _ _ _).mono ?_; rintro e w' ⟨rfl, rfl⟩)
      go_ret
      exact ⟨rfl, rfl⟩
  · have e : decide (a = c ∧ b = d) = false := by simp [h]
    have t1 : ((a : Int) == (c : Int)) = false := by simp; omega
    rw [e]
    clear e h
    go_enter Try.func17, Try.ntmps17
    go_wp2_with (go_at_call 14; refine (words_any _ _ _).mono ?_; rintro e w' ⟨rfl, rfl⟩)
    go_ret
    exact ⟨rfl, rfl⟩

theorem same_no (a b c d : Nat) (h : ¬ (a = c ∧ b = d)) (w : World) : Calls Try.prog 17 #[.complex .f64 a b, .complex .f64 c d] w fun e w' => e = .returned (.bool false) ∧ w = w' := by
  have k := same_any a b c d w
  rw [show decide (a = c ∧ b = d) = false from decide_eq_false h] at k
  exact k

theorem rsame_yes (a b : Nat) (w : World) : Calls Try.prog 15 #[.complex .f64 a b, .complex .f64 a b] w fun e w' => e = .returned (.bool true) ∧ w = w' := by
  go_enter Try.func15, Try.ntmps15
  go_wp2_with (go_at_call 33; refine (rwords_any _ _ _).mono ?_; rintro e w' ⟨rfl, rfl⟩)
  go_ret
  exact ⟨rfl, rfl⟩

theorem rsame_any (a b c d : Nat) (w : World) : Calls Try.prog 15 #[.complex .f64 a b, .complex .f64 c d] w fun e w' => e = .returned (.bool (decide (a = c ∧ b = d))) ∧ w = w' := by
  by_cases h : a = c
  · by_cases k : b = d
    · subst h k
      have e : decide (a = a ∧ b = b) = true := by simp
      rw [e]
      exact rsame_yes a b w
    · subst h
      have e : decide (a = a ∧ b = d) = false := by simp [k]
      have t1 : ((b : Int) == (d : Int)) = false := by simp; omega
      rw [e]
      clear e k
      go_enter Try.func15, Try.ntmps15
      go_wp2_with (go_at_call 33; refine (rwords_any _ _ _).mono ?_; rintro e w' ⟨rfl, rfl⟩)
      go_ret
      exact ⟨rfl, rfl⟩
  · have e : decide (a = c ∧ b = d) = false := by simp [h]
    have t1 : ((a : Int) == (c : Int)) = false := by simp; omega
    rw [e]
    clear e h
    go_enter Try.func15, Try.ntmps15
    go_wp2_with (go_at_call 33; refine (rwords_any _ _ _).mono ?_; rintro e w' ⟨rfl, rfl⟩)
    go_ret
    exact ⟨rfl, rfl⟩

theorem rsame_no (a b c d : Nat) (h : ¬ (a = c ∧ b = d)) (w : World) : Calls Try.prog 15 #[.complex .f64 a b, .complex .f64 c d] w fun e w' => e = .returned (.bool false) ∧ w = w' := by
  have k := rsame_any a b c d w
  rw [show decide (a = c ∧ b = d) = false from decide_eq_false h] at k
  exact k

/-- The sign bit turned. -/
def cjw (b : Nat) : Nat := (bits BinOp.xor IntKind.u64 (b : Int) 9223372036854775808).toNat

theorem cjw_eq {b : Nat} (h : b < 18446744073709551616) : cjw b = b ^^^ 9223372036854775808 := by
  unfold cjw
  have := bits_xor_u64_nat b 9223372036854775808 h (by decide)
  rw [show ((9223372036854775808 : Int)) = ((9223372036854775808 : Nat) : Int) from rfl, this]
  rfl

theorem conj_any (a b : Nat) (w : World) : Calls Try.prog 23 #[.complex .f64 a b] w fun e w' => e = .returned (.complex .f64 a (cjw b)) ∧ w = w' := by
  go_enter Try.func23, Try.ntmps23
  go_wp2_with (first | (go_at_call 14; refine (words_any _ _ _).mono ?_; rintro e w' ⟨rfl, rfl⟩) | (go_at_call 13; refine (of_any _ _ _).mono ?_; rintro e w' ⟨rfl, rfl⟩))
  go_ret
  exact ⟨rfl, rfl⟩

theorem rconj_any (a b : Nat) (w : World) : Calls Try.prog 24 #[.complex .f64 a b] w fun e w' => e = .returned (.complex .f64 a (cjw b)) ∧ w = w' := by
  go_enter Try.func24, Try.ntmps24
  go_wp2_with (first | (go_at_call 33; refine (rwords_any _ _ _).mono ?_; rintro e w' ⟨rfl, rfl⟩) | (go_at_call 16; refine (rof_any _ _ _).mono ?_; rintro e w' ⟨rfl, rfl⟩))
  go_ret
  exact ⟨rfl, rfl⟩

theorem awake_any (w : World) : Calls Try.prog 18 #[] w fun e w' => e = .returned (.bool true) ∧ Dr w w' := by
  have e1 : mulRe 4607182418800017408 4611686018427387904 4613937818241073152 4616189618054758400 = 13840687554816376832 := by decide +kernel
  have e2 : mulIm 4607182418800017408 4611686018427387904 4613937818241073152 4616189618054758400 = 4621819117588971520 := by decide +kernel
  have t1 : (FloatKind.f64.format.order 13840687554816376832 13840687554816376832 == some Ordering.eq) = true := by decide +kernel
  have t2 : (FloatKind.f64.format.order 4621819117588971520 4621819117588971520 == some Ordering.eq) = true := by decide +kernel
  have hm := mul_any 4607182418800017408 4611686018427387904 4613937818241073152 4616189618054758400
  rw [e1, e2] at hm
  clear e1 e2
  go_enter Try.func18, Try.ntmps18
  go_wp2_with (go_at_call 21; refine (hm _).mono ?_; clear hm; rintro e w' ⟨rfl, hd⟩)
  go_ret
  exact ⟨rfl, hd⟩

end Go.Proofs.Ytmpninbkhaacoaa
