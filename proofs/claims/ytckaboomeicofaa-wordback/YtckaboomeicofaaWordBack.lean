/-
  Proved: WordBack returns true for every input, and leaves its arguments as they were. No conditions.
-/
import Derived.Test.YtckaboomeicofaaRows
import Derived.WalkKit
import Derived.ProofKit
import Derived.OpenShut
import Derived.Test.YtckaboomeicofaaJump
import Derived.ShutString
namespace Go.Proofs.Ytckaboomeicofaa.wordBack
open Go.ChangeShapes Go.WideShapes Go.ChangeAt Go.RowKit Go.Flo Go.Bit
open Go.ChangeMaps (open_string shut_string)
set_option linter.unusedVariables false

theorem own : ownKnob Try.prog.godebug = none := by kernel_rfl


theorem mask_step (j : Nat) (hj : j < 64) : bits BinOp.or IntKind.u64 (IntKind.u64.wrap (((2 ^ j - 1 : Nat) : Int) * 2)) 1 = ((2 ^ (j + 1) - 1 : Nat) : Int) := by
  have h0 := Nat.two_pow_pos j
  have h1 := pow_le64 (j + 1) (by omega)
  have e : 2 ^ (j + 1) = 2 ^ j * 2 := Nat.pow_succ 2 j
  have h := or_bit (2 ^ j - 1) 1 (by omega) (by decide)
  have e2 : (2 ^ j - 1) * 2 + 1 = 2 ^ (j + 1) - 1 := by omega
  rw [e2] at h
  exact h

/-- What holds at the head of every round of the law's loop: the lowest k bits. -/
def MaskRel (n : Nat) (v i : Value) : Prop :=
  ∃ k : Nat, k ≤ n ∧ v = .int .u64 (2 ^ k - 1 : Nat) ∧ i = .int .i64 k

set_option maxHeartbeats 1000000 in
theorem coreA1 (X V F0 N0 O0 K0 : Int) (f m n o k : Nat) (s g q r : Int) (hf : f ≤ 64) (hm : m ≤ 64) (ho : o < 64) (hk : k < 64)
    (eF : wrap64 ((IntKind.u64.wrap F0).tmod 65) = f) (eN : wrap64 ((IntKind.u64.wrap N0).tmod 65) = m)
    (eO : wrap64 ((IntKind.u64.wrap O0).tmod 64) = o) (eK : wrap64 ((IntKind.u64.wrap K0).tmod 64) = k)
    (c0 : 64 < (f : Int) + m) (hn : 64 - (f : Int) = n)
    (c1 : ¬ (o : Int) + (k + 1) ≤ 64)
    (h1 : ∀ w, Calls Try.prog 13 #[.int .u64 X, .int .i64 f, .int .i64 n, .int .u64 V] w fun e w' => e = .returned (.int .u64 s) ∧ Dr w w')
    (h4 : ∀ w, Calls Try.prog 11 #[.int .u64 s, .int .i64 f, .int .i64 n] w fun e w' => e = .returned (.int .u64 r) ∧ Dr w w')
    (ht : (r == bits BinOp.and IntKind.u64 V ((2 ^ n - 1 : Nat) : Int)) = true)
    (h5 : ∀ w, Calls Try.prog 11 #[.int .u64 X, .int .i64 f, .int .i64 n] w fun e w' => e = .returned (.int .u64 q) ∧ Dr w w')
    (h6 : ∀ w, Calls Try.prog 13 #[.int .u64 s, .int .i64 f, .int .i64 n, .int .u64 q] w fun e w' => e = .returned (.int .u64 X) ∧ Dr w w')
    (w : World) :
    Calls Try.prog 5 #[.int .u64 X, .int .u64 V, .int .i64 F0, .int .i64 N0, .int .i64 O0, .int .i64 K0] w fun e w' => e = .returned (.bool true) ∧ Grown w w' := by
  have D := Dr.refl w
  go_enter Try.func5, Try.ntmps5
  go_wp2_with fail
  (with_reducible refine (h1 _).mono ?_)
  rintro e w' ⟨rfl, d⟩
  replace D := D.trans d
  clear d
  go_wp2_with fail
  go_loop [14, 35] (fun v i => MaskRel n v i) (fun _ i => n - (intOf i).toNat)
  case atStart => exact ⟨0, Nat.zero_le _, rfl, rfl⟩
  case round =>
    obtain ⟨j, hj, rfl, rfl⟩ := hrel
    by_cases hz : j = n
    · subst hz
      go_wp2_with fail
      skip
      (with_reducible refine (h4 _).mono ?_)
      rintro e w' ⟨rfl, d⟩
      replace D := D.trans d
      clear d
      go_wp2_with fail
      (with_reducible refine (h5 _).mono ?_)
      rintro e w' ⟨rfl, d⟩
      replace D := D.trans d
      clear d
      go_wp2_with fail
      (with_reducible refine (h6 _).mono ?_)
      rintro e w' ⟨rfl, d⟩
      replace D := D.trans d
      clear d
      go_wp2_with fail
      (with_reducible refine (awake_any _).mono ?_)
      rintro e w' ⟨rfl, d⟩
      go_wp2
      go_ret
      exact ⟨rfl, (D.trans d).grown⟩
    · have hlt : (j : Int) < n := by omega
      go_wp2_with fail
      go_round
      case rel =>
        refine ⟨j + 1, by omega, ?_, rfl⟩
        rw [mask_step j (by omega)]
      case measure => simp [intOf]; omega

set_option maxHeartbeats 1000000 in
theorem coreA2 (X V F0 N0 O0 K0 : Int) (f m n o k : Nat) (s g q r : Int) (hf : f ≤ 64) (hm : m ≤ 64) (ho : o < 64) (hk : k < 64)
    (eF : wrap64 ((IntKind.u64.wrap F0).tmod 65) = f) (eN : wrap64 ((IntKind.u64.wrap N0).tmod 65) = m)
    (eO : wrap64 ((IntKind.u64.wrap O0).tmod 64) = o) (eK : wrap64 ((IntKind.u64.wrap K0).tmod 64) = k)
    (c0 : 64 < (f : Int) + m) (hn : 64 - (f : Int) = n)
    (c1 : (o : Int) + (k + 1) ≤ 64) (c2 : (o : Int) + (k + 1) ≤ f)
    (h2 : ∀ w, Calls Try.prog 11 #[.int .u64 s, .int .i64 o, .int .i64 (k + 1)] w fun e w' => e = .returned (.int .u64 g) ∧ Dr w w')
    (h3 : ∀ w, Calls Try.prog 11 #[.int .u64 X, .int .i64 o, .int .i64 (k + 1)] w fun e w' => e = .returned (.int .u64 g) ∧ Dr w w')
    (h1 : ∀ w, Calls Try.prog 13 #[.int .u64 X, .int .i64 f, .int .i64 n, .int .u64 V] w fun e w' => e = .returned (.int .u64 s) ∧ Dr w w')
    (h4 : ∀ w, Calls Try.prog 11 #[.int .u64 s, .int .i64 f, .int .i64 n] w fun e w' => e = .returned (.int .u64 r) ∧ Dr w w')
    (ht : (r == bits BinOp.and IntKind.u64 V ((2 ^ n - 1 : Nat) : Int)) = true)
    (h5 : ∀ w, Calls Try.prog 11 #[.int .u64 X, .int .i64 f, .int .i64 n] w fun e w' => e = .returned (.int .u64 q) ∧ Dr w w')
    (h6 : ∀ w, Calls Try.prog 13 #[.int .u64 s, .int .i64 f, .int .i64 n, .int .u64 q] w fun e w' => e = .returned (.int .u64 X) ∧ Dr w w')
    (w : World) :
    Calls Try.prog 5 #[.int .u64 X, .int .u64 V, .int .i64 F0, .int .i64 N0, .int .i64 O0, .int .i64 K0] w fun e w' => e = .returned (.bool true) ∧ Grown w w' := by
  have D := Dr.refl w
  go_enter Try.func5, Try.ntmps5
  go_wp2_with fail
  (with_reducible refine (h1 _).mono ?_)
  rintro e w' ⟨rfl, d⟩
  replace D := D.trans d
  clear d
  go_wp2_with fail
  go_loop [14, 35] (fun v i => MaskRel n v i) (fun _ i => n - (intOf i).toNat)
  case atStart => exact ⟨0, Nat.zero_le _, rfl, rfl⟩
  case round =>
    obtain ⟨j, hj, rfl, rfl⟩ := hrel
    by_cases hz : j = n
    · subst hz
      go_wp2_with fail
      (with_reducible refine (h2 _).mono ?_)
      rintro e w' ⟨rfl, d⟩
      replace D := D.trans d
      clear d
      go_wp2_with fail
      (with_reducible refine (h3 _).mono ?_)
      rintro e w' ⟨rfl, d⟩
      replace D := D.trans d
      clear d
      go_wp2_with fail
      (with_reducible refine (h4 _).mono ?_)
      rintro e w' ⟨rfl, d⟩
      replace D := D.trans d
      clear d
      go_wp2_with fail
      (with_reducible refine (h5 _).mono ?_)
      rintro e w' ⟨rfl, d⟩
      replace D := D.trans d
      clear d
      go_wp2_with fail
      (with_reducible refine (h6 _).mono ?_)
      rintro e w' ⟨rfl, d⟩
      replace D := D.trans d
      clear d
      go_wp2_with fail
      (with_reducible refine (awake_any _).mono ?_)
      rintro e w' ⟨rfl, d⟩
      go_wp2
      go_ret
      exact ⟨rfl, (D.trans d).grown⟩
    · have hlt : (j : Int) < n := by omega
      go_wp2_with fail
      go_round
      case rel =>
        refine ⟨j + 1, by omega, ?_, rfl⟩
        rw [mask_step j (by omega)]
      case measure => simp [intOf]; omega

set_option maxHeartbeats 1000000 in
theorem coreA4 (X V F0 N0 O0 K0 : Int) (f m n o k : Nat) (s g q r : Int) (hf : f ≤ 64) (hm : m ≤ 64) (ho : o < 64) (hk : k < 64)
    (eF : wrap64 ((IntKind.u64.wrap F0).tmod 65) = f) (eN : wrap64 ((IntKind.u64.wrap N0).tmod 65) = m)
    (eO : wrap64 ((IntKind.u64.wrap O0).tmod 64) = o) (eK : wrap64 ((IntKind.u64.wrap K0).tmod 64) = k)
    (c0 : 64 < (f : Int) + m) (hn : 64 - (f : Int) = n)
    (c1 : (o : Int) + (k + 1) ≤ 64) (c2 : ¬ (o : Int) + (k + 1) ≤ f) (c3 : ¬ (f : Int) + n ≤ o)
    (h1 : ∀ w, Calls Try.prog 13 #[.int .u64 X, .int .i64 f, .int .i64 n, .int .u64 V] w fun e w' => e = .returned (.int .u64 s) ∧ Dr w w')
    (h4 : ∀ w, Calls Try.prog 11 #[.int .u64 s, .int .i64 f, .int .i64 n] w fun e w' => e = .returned (.int .u64 r) ∧ Dr w w')
    (ht : (r == bits BinOp.and IntKind.u64 V ((2 ^ n - 1 : Nat) : Int)) = true)
    (h5 : ∀ w, Calls Try.prog 11 #[.int .u64 X, .int .i64 f, .int .i64 n] w fun e w' => e = .returned (.int .u64 q) ∧ Dr w w')
    (h6 : ∀ w, Calls Try.prog 13 #[.int .u64 s, .int .i64 f, .int .i64 n, .int .u64 q] w fun e w' => e = .returned (.int .u64 X) ∧ Dr w w')
    (w : World) :
    Calls Try.prog 5 #[.int .u64 X, .int .u64 V, .int .i64 F0, .int .i64 N0, .int .i64 O0, .int .i64 K0] w fun e w' => e = .returned (.bool true) ∧ Grown w w' := by
  have D := Dr.refl w
  go_enter Try.func5, Try.ntmps5
  go_wp2_with fail
  (with_reducible refine (h1 _).mono ?_)
  rintro e w' ⟨rfl, d⟩
  replace D := D.trans d
  clear d
  go_wp2_with fail
  go_loop [14, 35] (fun v i => MaskRel n v i) (fun _ i => n - (intOf i).toNat)
  case atStart => exact ⟨0, Nat.zero_le _, rfl, rfl⟩
  case round =>
    obtain ⟨j, hj, rfl, rfl⟩ := hrel
    by_cases hz : j = n
    · subst hz
      go_wp2_with fail
      skip
      (with_reducible refine (h4 _).mono ?_)
      rintro e w' ⟨rfl, d⟩
      replace D := D.trans d
      clear d
      go_wp2_with fail
      (with_reducible refine (h5 _).mono ?_)
      rintro e w' ⟨rfl, d⟩
      replace D := D.trans d
      clear d
      go_wp2_with fail
      (with_reducible refine (h6 _).mono ?_)
      rintro e w' ⟨rfl, d⟩
      replace D := D.trans d
      clear d
      go_wp2_with fail
      (with_reducible refine (awake_any _).mono ?_)
      rintro e w' ⟨rfl, d⟩
      go_wp2
      go_ret
      exact ⟨rfl, (D.trans d).grown⟩
    · have hlt : (j : Int) < n := by omega
      go_wp2_with fail
      go_round
      case rel =>
        refine ⟨j + 1, by omega, ?_, rfl⟩
        rw [mask_step j (by omega)]
      case measure => simp [intOf]; omega

set_option maxHeartbeats 1000000 in
theorem coreB1 (X V F0 N0 O0 K0 : Int) (f m n o k : Nat) (s g q r : Int) (hf : f ≤ 64) (hm : m ≤ 64) (ho : o < 64) (hk : k < 64)
    (eF : wrap64 ((IntKind.u64.wrap F0).tmod 65) = f) (eN : wrap64 ((IntKind.u64.wrap N0).tmod 65) = m)
    (eO : wrap64 ((IntKind.u64.wrap O0).tmod 64) = o) (eK : wrap64 ((IntKind.u64.wrap K0).tmod 64) = k)
    (c0 : ¬ 64 < (f : Int) + m) (hmn : n = m)
    (c1 : ¬ (o : Int) + (k + 1) ≤ 64)
    (h1 : ∀ w, Calls Try.prog 13 #[.int .u64 X, .int .i64 f, .int .i64 n, .int .u64 V] w fun e w' => e = .returned (.int .u64 s) ∧ Dr w w')
    (h4 : ∀ w, Calls Try.prog 11 #[.int .u64 s, .int .i64 f, .int .i64 n] w fun e w' => e = .returned (.int .u64 r) ∧ Dr w w')
    (ht : (r == bits BinOp.and IntKind.u64 V ((2 ^ n - 1 : Nat) : Int)) = true)
    (h5 : ∀ w, Calls Try.prog 11 #[.int .u64 X, .int .i64 f, .int .i64 n] w fun e w' => e = .returned (.int .u64 q) ∧ Dr w w')
    (h6 : ∀ w, Calls Try.prog 13 #[.int .u64 s, .int .i64 f, .int .i64 n, .int .u64 q] w fun e w' => e = .returned (.int .u64 X) ∧ Dr w w')
    (w : World) :
    Calls Try.prog 5 #[.int .u64 X, .int .u64 V, .int .i64 F0, .int .i64 N0, .int .i64 O0, .int .i64 K0] w fun e w' => e = .returned (.bool true) ∧ Grown w w' := by
  have D := Dr.refl w
  go_enter Try.func5, Try.ntmps5
  subst hmn
  go_wp2_with fail
  (with_reducible refine (h1 _).mono ?_)
  rintro e w' ⟨rfl, d⟩
  replace D := D.trans d
  clear d
  go_wp2_with fail
  go_loop [14, 35] (fun v i => MaskRel n v i) (fun _ i => n - (intOf i).toNat)
  case atStart => exact ⟨0, Nat.zero_le _, rfl, rfl⟩
  case round =>
    obtain ⟨j, hj, rfl, rfl⟩ := hrel
    by_cases hz : j = n
    · subst hz
      go_wp2_with fail
      skip
      (with_reducible refine (h4 _).mono ?_)
      rintro e w' ⟨rfl, d⟩
      replace D := D.trans d
      clear d
      go_wp2_with fail
      (with_reducible refine (h5 _).mono ?_)
      rintro e w' ⟨rfl, d⟩
      replace D := D.trans d
      clear d
      go_wp2_with fail
      (with_reducible refine (h6 _).mono ?_)
      rintro e w' ⟨rfl, d⟩
      replace D := D.trans d
      clear d
      go_wp2_with fail
      (with_reducible refine (awake_any _).mono ?_)
      rintro e w' ⟨rfl, d⟩
      go_wp2
      go_ret
      exact ⟨rfl, (D.trans d).grown⟩
    · have hlt : (j : Int) < n := by omega
      go_wp2_with fail
      go_round
      case rel =>
        refine ⟨j + 1, by omega, ?_, rfl⟩
        rw [mask_step j (by omega)]
      case measure => simp [intOf]; omega

set_option maxHeartbeats 1000000 in
theorem coreB2 (X V F0 N0 O0 K0 : Int) (f m n o k : Nat) (s g q r : Int) (hf : f ≤ 64) (hm : m ≤ 64) (ho : o < 64) (hk : k < 64)
    (eF : wrap64 ((IntKind.u64.wrap F0).tmod 65) = f) (eN : wrap64 ((IntKind.u64.wrap N0).tmod 65) = m)
    (eO : wrap64 ((IntKind.u64.wrap O0).tmod 64) = o) (eK : wrap64 ((IntKind.u64.wrap K0).tmod 64) = k)
    (c0 : ¬ 64 < (f : Int) + m) (hmn : n = m)
    (c1 : (o : Int) + (k + 1) ≤ 64) (c2 : (o : Int) + (k + 1) ≤ f)
    (h2 : ∀ w, Calls Try.prog 11 #[.int .u64 s, .int .i64 o, .int .i64 (k + 1)] w fun e w' => e = .returned (.int .u64 g) ∧ Dr w w')
    (h3 : ∀ w, Calls Try.prog 11 #[.int .u64 X, .int .i64 o, .int .i64 (k + 1)] w fun e w' => e = .returned (.int .u64 g) ∧ Dr w w')
    (h1 : ∀ w, Calls Try.prog 13 #[.int .u64 X, .int .i64 f, .int .i64 n, .int .u64 V] w fun e w' => e = .returned (.int .u64 s) ∧ Dr w w')
    (h4 : ∀ w, Calls Try.prog 11 #[.int .u64 s, .int .i64 f, .int .i64 n] w fun e w' => e = .returned (.int .u64 r) ∧ Dr w w')
    (ht : (r == bits BinOp.and IntKind.u64 V ((2 ^ n - 1 : Nat) : Int)) = true)
    (h5 : ∀ w, Calls Try.prog 11 #[.int .u64 X, .int .i64 f, .int .i64 n] w fun e w' => e = .returned (.int .u64 q) ∧ Dr w w')
    (h6 : ∀ w, Calls Try.prog 13 #[.int .u64 s, .int .i64 f, .int .i64 n, .int .u64 q] w fun e w' => e = .returned (.int .u64 X) ∧ Dr w w')
    (w : World) :
    Calls Try.prog 5 #[.int .u64 X, .int .u64 V, .int .i64 F0, .int .i64 N0, .int .i64 O0, .int .i64 K0] w fun e w' => e = .returned (.bool true) ∧ Grown w w' := by
  have D := Dr.refl w
  go_enter Try.func5, Try.ntmps5
  subst hmn
  go_wp2_with fail
  (with_reducible refine (h1 _).mono ?_)
  rintro e w' ⟨rfl, d⟩
  replace D := D.trans d
  clear d
  go_wp2_with fail
  go_loop [14, 35] (fun v i => MaskRel n v i) (fun _ i => n - (intOf i).toNat)
  case atStart => exact ⟨0, Nat.zero_le _, rfl, rfl⟩
  case round =>
    obtain ⟨j, hj, rfl, rfl⟩ := hrel
    by_cases hz : j = n
    · subst hz
      go_wp2_with fail
      (with_reducible refine (h2 _).mono ?_)
      rintro e w' ⟨rfl, d⟩
      replace D := D.trans d
      clear d
      go_wp2_with fail
      (with_reducible refine (h3 _).mono ?_)
      rintro e w' ⟨rfl, d⟩
      replace D := D.trans d
      clear d
      go_wp2_with fail
      (with_reducible refine (h4 _).mono ?_)
      rintro e w' ⟨rfl, d⟩
      replace D := D.trans d
      clear d
      go_wp2_with fail
      (with_reducible refine (h5 _).mono ?_)
      rintro e w' ⟨rfl, d⟩
      replace D := D.trans d
      clear d
      go_wp2_with fail
      (with_reducible refine (h6 _).mono ?_)
      rintro e w' ⟨rfl, d⟩
      replace D := D.trans d
      clear d
      go_wp2_with fail
      (with_reducible refine (awake_any _).mono ?_)
      rintro e w' ⟨rfl, d⟩
      go_wp2
      go_ret
      exact ⟨rfl, (D.trans d).grown⟩
    · have hlt : (j : Int) < n := by omega
      go_wp2_with fail
      go_round
      case rel =>
        refine ⟨j + 1, by omega, ?_, rfl⟩
        rw [mask_step j (by omega)]
      case measure => simp [intOf]; omega

set_option maxHeartbeats 1000000 in
theorem coreB3 (X V F0 N0 O0 K0 : Int) (f m n o k : Nat) (s g q r : Int) (hf : f ≤ 64) (hm : m ≤ 64) (ho : o < 64) (hk : k < 64)
    (eF : wrap64 ((IntKind.u64.wrap F0).tmod 65) = f) (eN : wrap64 ((IntKind.u64.wrap N0).tmod 65) = m)
    (eO : wrap64 ((IntKind.u64.wrap O0).tmod 64) = o) (eK : wrap64 ((IntKind.u64.wrap K0).tmod 64) = k)
    (c0 : ¬ 64 < (f : Int) + m) (hmn : n = m)
    (c1 : (o : Int) + (k + 1) ≤ 64) (c2 : ¬ (o : Int) + (k + 1) ≤ f) (c3 : (f : Int) + n ≤ o)
    (h2 : ∀ w, Calls Try.prog 11 #[.int .u64 s, .int .i64 o, .int .i64 (k + 1)] w fun e w' => e = .returned (.int .u64 g) ∧ Dr w w')
    (h3 : ∀ w, Calls Try.prog 11 #[.int .u64 X, .int .i64 o, .int .i64 (k + 1)] w fun e w' => e = .returned (.int .u64 g) ∧ Dr w w')
    (h1 : ∀ w, Calls Try.prog 13 #[.int .u64 X, .int .i64 f, .int .i64 n, .int .u64 V] w fun e w' => e = .returned (.int .u64 s) ∧ Dr w w')
    (h4 : ∀ w, Calls Try.prog 11 #[.int .u64 s, .int .i64 f, .int .i64 n] w fun e w' => e = .returned (.int .u64 r) ∧ Dr w w')
    (ht : (r == bits BinOp.and IntKind.u64 V ((2 ^ n - 1 : Nat) : Int)) = true)
    (h5 : ∀ w, Calls Try.prog 11 #[.int .u64 X, .int .i64 f, .int .i64 n] w fun e w' => e = .returned (.int .u64 q) ∧ Dr w w')
    (h6 : ∀ w, Calls Try.prog 13 #[.int .u64 s, .int .i64 f, .int .i64 n, .int .u64 q] w fun e w' => e = .returned (.int .u64 X) ∧ Dr w w')
    (w : World) :
    Calls Try.prog 5 #[.int .u64 X, .int .u64 V, .int .i64 F0, .int .i64 N0, .int .i64 O0, .int .i64 K0] w fun e w' => e = .returned (.bool true) ∧ Grown w w' := by
  have D := Dr.refl w
  go_enter Try.func5, Try.ntmps5
  subst hmn
  go_wp2_with fail
  (with_reducible refine (h1 _).mono ?_)
  rintro e w' ⟨rfl, d⟩
  replace D := D.trans d
  clear d
  go_wp2_with fail
  go_loop [14, 35] (fun v i => MaskRel n v i) (fun _ i => n - (intOf i).toNat)
  case atStart => exact ⟨0, Nat.zero_le _, rfl, rfl⟩
  case round =>
    obtain ⟨j, hj, rfl, rfl⟩ := hrel
    by_cases hz : j = n
    · subst hz
      go_wp2_with fail
      (with_reducible refine (h2 _).mono ?_)
      rintro e w' ⟨rfl, d⟩
      replace D := D.trans d
      clear d
      go_wp2_with fail
      (with_reducible refine (h3 _).mono ?_)
      rintro e w' ⟨rfl, d⟩
      replace D := D.trans d
      clear d
      go_wp2_with fail
      (with_reducible refine (h4 _).mono ?_)
      rintro e w' ⟨rfl, d⟩
      replace D := D.trans d
      clear d
      go_wp2_with fail
      (with_reducible refine (h5 _).mono ?_)
      rintro e w' ⟨rfl, d⟩
      replace D := D.trans d
      clear d
      go_wp2_with fail
      (with_reducible refine (h6 _).mono ?_)
      rintro e w' ⟨rfl, d⟩
      replace D := D.trans d
      clear d
      go_wp2_with fail
      (with_reducible refine (awake_any _).mono ?_)
      rintro e w' ⟨rfl, d⟩
      go_wp2
      go_ret
      exact ⟨rfl, (D.trans d).grown⟩
    · have hlt : (j : Int) < n := by omega
      go_wp2_with fail
      go_round
      case rel =>
        refine ⟨j + 1, by omega, ?_, rfl⟩
        rw [mask_step j (by omega)]
      case measure => simp [intOf]; omega

set_option maxHeartbeats 1000000 in
theorem coreB4 (X V F0 N0 O0 K0 : Int) (f m n o k : Nat) (s g q r : Int) (hf : f ≤ 64) (hm : m ≤ 64) (ho : o < 64) (hk : k < 64)
    (eF : wrap64 ((IntKind.u64.wrap F0).tmod 65) = f) (eN : wrap64 ((IntKind.u64.wrap N0).tmod 65) = m)
    (eO : wrap64 ((IntKind.u64.wrap O0).tmod 64) = o) (eK : wrap64 ((IntKind.u64.wrap K0).tmod 64) = k)
    (c0 : ¬ 64 < (f : Int) + m) (hmn : n = m)
    (c1 : (o : Int) + (k + 1) ≤ 64) (c2 : ¬ (o : Int) + (k + 1) ≤ f) (c3 : ¬ (f : Int) + n ≤ o)
    (h1 : ∀ w, Calls Try.prog 13 #[.int .u64 X, .int .i64 f, .int .i64 n, .int .u64 V] w fun e w' => e = .returned (.int .u64 s) ∧ Dr w w')
    (h4 : ∀ w, Calls Try.prog 11 #[.int .u64 s, .int .i64 f, .int .i64 n] w fun e w' => e = .returned (.int .u64 r) ∧ Dr w w')
    (ht : (r == bits BinOp.and IntKind.u64 V ((2 ^ n - 1 : Nat) : Int)) = true)
    (h5 : ∀ w, Calls Try.prog 11 #[.int .u64 X, .int .i64 f, .int .i64 n] w fun e w' => e = .returned (.int .u64 q) ∧ Dr w w')
    (h6 : ∀ w, Calls Try.prog 13 #[.int .u64 s, .int .i64 f, .int .i64 n, .int .u64 q] w fun e w' => e = .returned (.int .u64 X) ∧ Dr w w')
    (w : World) :
    Calls Try.prog 5 #[.int .u64 X, .int .u64 V, .int .i64 F0, .int .i64 N0, .int .i64 O0, .int .i64 K0] w fun e w' => e = .returned (.bool true) ∧ Grown w w' := by
  have D := Dr.refl w
  go_enter Try.func5, Try.ntmps5
  subst hmn
  go_wp2_with fail
  (with_reducible refine (h1 _).mono ?_)
  rintro e w' ⟨rfl, d⟩
  replace D := D.trans d
  clear d
  go_wp2_with fail
  go_loop [14, 35] (fun v i => MaskRel n v i) (fun _ i => n - (intOf i).toNat)
  case atStart => exact ⟨0, Nat.zero_le _, rfl, rfl⟩
  case round =>
    obtain ⟨j, hj, rfl, rfl⟩ := hrel
    by_cases hz : j = n
    · subst hz
      go_wp2_with fail
      skip
      (with_reducible refine (h4 _).mono ?_)
      rintro e w' ⟨rfl, d⟩
      replace D := D.trans d
      clear d
      go_wp2_with fail
      (with_reducible refine (h5 _).mono ?_)
      rintro e w' ⟨rfl, d⟩
      replace D := D.trans d
      clear d
      go_wp2_with fail
      (with_reducible refine (h6 _).mono ?_)
      rintro e w' ⟨rfl, d⟩
      replace D := D.trans d
      clear d
      go_wp2_with fail
      (with_reducible refine (awake_any _).mono ?_)
      rintro e w' ⟨rfl, d⟩
      go_wp2
      go_ret
      exact ⟨rfl, (D.trans d).grown⟩
    · have hlt : (j : Int) < n := by omega
      go_wp2_with fail
      go_round
      case rel =>
        refine ⟨j + 1, by omega, ?_, rfl⟩
        rw [mask_step j (by omega)]
      case measure => simp [intOf]; omega

theorem walk (a0 : Int) (a1 : Int) (a2 : Int) (a3 : Int) (a4 : Int) (a5 : Int) (w0 : (Lit.int .u64 a0).wf = true) (w1 : (Lit.int .u64 a1).wf = true) (w2 : (Lit.int .i64 a2).wf = true) (w3 : (Lit.int .i64 a3).wf = true) (w4 : (Lit.int .i64 a4).wf = true) (w5 : (Lit.int .i64 a5).wf = true) (w : World) :
    Calls Try.prog 5 #[.int .u64 a0, .int .u64 a1, .int .i64 a2, .int .i64 a3, .int .i64 a4, .int .i64 a5] w fun e w' => e = .returned (.bool true) ∧ Grown w w' := by
  obtain ⟨x, rfl, hx⟩ := u64_nat w0
  obtain ⟨v, rfl, hv⟩ := u64_nat w1
  obtain ⟨f, hf, ef⟩ := slot_mod a2 65 (by decide) (by decide)
  obtain ⟨m, hm, em⟩ := slot_mod a3 65 (by decide) (by decide)
  obtain ⟨o, ho, eo⟩ := slot_mod a4 64 (by decide) (by decide)
  obtain ⟨k, hk, ek⟩ := slot_mod a5 64 (by decide) (by decide)
  have main : ∀ n : Nat, f + n ≤ 64 → (64 < f + m ∧ f + n = 64 ∨ f + m ≤ 64 ∧ m = n) → Calls Try.prog 5 #[.int .u64 x, .int .u64 v, .int .i64 a2, .int .i64 a3, .int .i64 a4, .int .i64 a5] w fun e w' => e = .returned (.bool true) ∧ Grown w w' := by
    intro n hn hcase
    have hs := setN_lt x f n v hx hn
    have h1 := set_any x f n v hx hv hn
    have h4 := get_any (setN x f n v) f n hs hn
    rw [get_set x f n v hx hn] at h4
    have ht : (((v % 2 ^ n : Nat) : Int) == bits BinOp.and IntKind.u64 (v : Int) ((2 ^ n - 1 : Nat) : Int)) = true := by
      rw [and_mask v n hv (by omega)]
      simp
    have h5 := get_any x f n hx hn
    have h6 := set_any (setN x f n v) f n (getN x f n) hs (getN_lt64 _ _ _ hx) hn
    rw [set_set_get x f n v hx hn] at h6
    have h3 : o + (k + 1) ≤ 64 → ∀ w, Calls Try.prog 11 #[.int .u64 x, .int .i64 o, .int .i64 ((k : Int) + 1)] w fun e w' => e = .returned (.int .u64 (getN x o (k + 1))) ∧ Dr w w' := fun h => get_any x o (k + 1) hx h
    have h2 : o + (k + 1) ≤ 64 → (o + (k + 1) ≤ f ∨ f + n ≤ o) → ∀ w, Calls Try.prog 11 #[.int .u64 (setN x f n v), .int .i64 o, .int .i64 ((k : Int) + 1)] w fun e w' => e = .returned (.int .u64 (getN x o (k + 1))) ∧ Dr w w' := by
      intro h ha
      have h' := get_any (setN x f n v) o (k + 1) hs h
      rw [get_set_apart x f n v o (k + 1) hx hn ha] at h'
      exact h'
    rcases hcase with ⟨c0, hc⟩ | ⟨c0, hc⟩
    · by_cases c1 : o + (k + 1) ≤ 64
      · by_cases c2 : o + (k + 1) ≤ f
        · exact coreA2 x v a2 a3 a4 a5 f m n o k _ _ _ _ (by omega) (by omega) ho hk ef em eo ek (by omega) (by omega) (by omega) (by omega) (h2 c1 (Or.inl c2)) (h3 c1) h1 h4 ht h5 h6 w
        · exact coreA4 x v a2 a3 a4 a5 f m n o k _ 0 _ _ (by omega) (by omega) ho hk ef em eo ek (by omega) (by omega) (by omega) (by omega) (by omega) h1 h4 ht h5 h6 w
      · exact coreA1 x v a2 a3 a4 a5 f m n o k _ 0 _ _ (by omega) (by omega) ho hk ef em eo ek (by omega) (by omega) (by omega) h1 h4 ht h5 h6 w
    · by_cases c1 : o + (k + 1) ≤ 64
      · by_cases c2 : o + (k + 1) ≤ f
        · exact coreB2 x v a2 a3 a4 a5 f m n o k _ _ _ _ (by omega) (by omega) ho hk ef em eo ek (by omega) hc.symm (by omega) (by omega) (h2 c1 (Or.inl c2)) (h3 c1) h1 h4 ht h5 h6 w
        · by_cases c3 : f + n ≤ o
          · exact coreB3 x v a2 a3 a4 a5 f m n o k _ _ _ _ (by omega) (by omega) ho hk ef em eo ek (by omega) hc.symm (by omega) (by omega) (by omega) (h2 c1 (Or.inr c3)) (h3 c1) h1 h4 ht h5 h6 w
          · exact coreB4 x v a2 a3 a4 a5 f m n o k _ 0 _ _ (by omega) (by omega) ho hk ef em eo ek (by omega) hc.symm (by omega) (by omega) (by omega) h1 h4 ht h5 h6 w
      · exact coreB1 x v a2 a3 a4 a5 f m n o k _ 0 _ _ (by omega) (by omega) ho hk ef em eo ek (by omega) hc.symm (by omega) h1 h4 ht h5 h6 w
  by_cases c : 64 < f + m
  · exact main (64 - f) (by omega) (Or.inl ⟨c, by omega⟩)
  · exact main m (by omega) (Or.inr ⟨by omega, rfl⟩)

set_option maxRecDepth 100000 in
theorem lifted (os : Os) (started : os.Started) (H : Type) (enc : TypeId × Value → H) :
    ReturnsInHanded {} Try.checked os 5 .any (Rows.wordBackSpec.pre6 enc Try.prog Try.f5 Rows.wordBackRow.domain false) (Rows.wordBackSpec.post enc Try.prog Try.f5 false true false false) := by
  refine returnsInHanded_of_change (C := Try.checked) own started (by kernel_rfl) Try.func5
    (ChangeSpec.witness6 (enc := enc) (C := Try.checked) false ⟨#[], #[.int .u64 0, .int .u64 0, .int .i64 0, .int .i64 0, .int .i64 0, .int .i64 0], []⟩ 8 (by kernel_rfl) (by kernel_rfl) (by kernel_rfl) (by kernel_rfl)) ?_
  intro W base args ds gs before hval0 hW hcnd _
  have hval : ∀ (j : Nat) t v, Try.f5.params[j]? = some t → args[j]? = some v → Value.okWide Try.prog W .any base t v := hval0
  have hW' := hW
  obtain ⟨p, q, hA0, hV, rfl, hfz, hnd⟩ := hW
  have hA : DataW.TrodAll enc Try.prog W 0 (fun _ => true) true Try.f5.params.toList args.toList ds p := hA0
  rw [Try.params5] at hA hval
  obtain ⟨v0, vs0, d0, ds0, p0, q0, hargs, rfl, rfl, h0, r0⟩ := trodAll_cons hA
  obtain ⟨v1, vs1, d1, ds1, p1, q1, rfl, rfl, rfl, h1, r1⟩ := trodAll_cons r0
  obtain ⟨v2, vs2, d2, ds2, p2, q2, rfl, rfl, rfl, h2, r2⟩ := trodAll_cons r1
  obtain ⟨v3, vs3, d3, ds3, p3, q3, rfl, rfl, rfl, h3, r3⟩ := trodAll_cons r2
  obtain ⟨v4, vs4, d4, ds4, p4, q4, rfl, rfl, rfl, h4, r4⟩ := trodAll_cons r3
  obtain ⟨v5, vs5, d5, ds5, p5, q5, rfl, rfl, rfl, h5, r5⟩ := trodAll_cons r4
  obtain ⟨rfl, rfl, rfl⟩ := trodAll_nil r5
  obtain rfl : args = #[v0, v1, v2, v3, v4, v5] := by cases args; simp_all
  obtain ⟨rfl, rfl⟩ := trodVars_none hV
  obtain ⟨a0, rfl, rfl, rfl, w0⟩ := open_int Try.underlying22 (hval 0 22 v0 rfl rfl) h0
  obtain ⟨a1, rfl, rfl, rfl, w1⟩ := open_int Try.underlying22 (hval 1 22 v1 rfl rfl) h1
  obtain ⟨a2, rfl, rfl, rfl, w2⟩ := open_int Try.underlying3 (hval 2 3 v2 rfl rfl) h2
  obtain ⟨a3, rfl, rfl, rfl, w3⟩ := open_int Try.underlying3 (hval 3 3 v3 rfl rfl) h3
  obtain ⟨a4, rfl, rfl, rfl, w4⟩ := open_int Try.underlying3 (hval 4 3 v4 rfl rfl) h4
  obtain ⟨a5, rfl, rfl, rfl, w5⟩ := open_int Try.underlying3 (hval 5 3 v5 rfl rfl) h5
  clear hA0 hval0
  simp only [List.append_nil] at hW'
  refine (walk a0 a1 a2 a3 a4 a5 w0 w1 w2 w3 w4 w5 W).mono fun e W' ⟨he, hg⟩ => ?_
  subst he
  exact ⟨_, rfl, post_of_same (pa := []) (pv := []) hW' (fun _ _ _ => (trodAll_cons_mk (shut_bool Try.underlying4 _) trodAll_mk0)) (fun sp _ => (trodAll_cons_mk (shut_int Try.underlying22 w0) (trodAll_cons_mk (shut_int Try.underlying22 w1) (trodAll_cons_mk (shut_int Try.underlying3 w2) (trodAll_cons_mk (shut_int Try.underlying3 w3) (trodAll_cons_mk (shut_int Try.underlying3 w4) (trodAll_cons_mk (shut_int Try.underlying3 w5) trodAll_mk0))))))) (fun _ _ => rfl) rfl
    (hg.frame _) hg.2.1 (ok_one (by kernel_rfl) rfl (okWide_bool_mk Try.underlying4 _))⟩

theorem over : Rows.wordBackRow.holds Try.pinned (OpenSpec.ofChange Rows.wordBackSpec) :=
  OpenClaim.holds_of_wide 5 Try.f5 rfl rfl rfl rfl rfl rfl rfl ⟨rfl, rfl, rfl, rfl, rfl⟩ rfl rfl rfl rfl rfl (by kernel_rfl) Try.func5 (by kernel_rfl)
    (of_decide_eq_true (by kernel_rfl)) (by unfold Func.isWrapper; first | (rw [if_pos (by decide +kernel)]; kernel_rfl) | (rw [if_neg (by decide +kernel)]; exact ⟨rfl, rfl⟩))
    (fun os started H enc _ => lifted os started H enc)

theorem proved : Rows.WordBackSaid :=
  over
#print axioms proved
end Go.Proofs.Ytckaboomeicofaa.wordBack
