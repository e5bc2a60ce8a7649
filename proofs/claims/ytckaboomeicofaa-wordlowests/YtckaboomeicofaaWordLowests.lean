/-
  Proved: WordLowests returns true for every input, and leaves its arguments as they were. No conditions.
-/
import Derived.Test.YtckaboomeicofaaRows
import Derived.WalkKit
import Derived.ProofKit
import Derived.OpenShut
import Derived.Test.YtckaboomeicofaaJump
import Derived.ShutString
namespace Go.Proofs.Ytckaboomeicofaa.wordLowests
open Go.ChangeShapes Go.WideShapes Go.ChangeAt Go.RowKit Go.Flo Go.Bit
open Go.ChangeMaps (open_string shut_string)
set_option linter.unusedVariables false

theorem own : ownKnob Try.prog.godebug = none := by kernel_rfl

theorem core_zero (c l : Int) (hl : l = 64) (hc : c = 0)
    (h1 : ∀ w, Calls Try.prog 18 #[.int .u64 0] w fun e w' => e = .returned (.int .i64 l) ∧ w = w')
    (h2 : ∀ w, Calls Try.prog 16 #[.int .u64 0] w fun e w' => e = .returned (.int .i64 c) ∧ w = w')
    (w : World) :
    Calls Try.prog 7 #[.int .u64 0] w fun e w' => e = .returned (.bool true) ∧ Grown w w' := by
  subst hl hc
  go_enter Try.func7, Try.ntmps7
  go_wp2_with fail
  (with_reducible refine (h1 _).mono ?_)
  rintro e w' ⟨rfl, rfl⟩
  go_wp2_with fail
  (with_reducible refine (h2 _).mono ?_)
  rintro e w' ⟨rfl, rfl⟩
  go_wp2_with fail
  (with_reducible refine (awake_any _).mono ?_)
  rintro e w' ⟨rfl, d6⟩
  go_wp2
  go_ret
  exact ⟨rfl, d6.grown⟩

theorem core (X : Int) (hX : 0 < X) (i : Nat) (s : Int) (o1 o2 : Nat) (k : Nat) (hi : i < 64) (hk : i < k) (ho : o1 + 1 = o2) (ho' : o2 ≤ 64)
    (h1 : ∀ w, Calls Try.prog 18 #[.int .u64 X] w fun e w' => e = .returned (.int .i64 i) ∧ w = w')
    (h2 : ∀ w, Calls Try.prog 13 #[.int .u64 X, .int .i64 i, .int .i64 1, .int .u64 0] w fun e w' => e = .returned (.int .u64 s) ∧ Dr w w')
    (h3 : ∀ w, Calls Try.prog 11 #[.int .u64 X, .int .i64 i, .int .i64 1] w fun e w' => e = .returned (.int .u64 1) ∧ Dr w w')
    (h4 : ∀ w, Calls Try.prog 11 #[.int .u64 X, .int .i64 0, .int .i64 i] w fun e w' => e = .returned (.int .u64 0) ∧ Dr w w')
    (h5 : ∀ w, Calls Try.prog 16 #[.int .u64 s] w fun e w' => e = .returned (.int .i64 o1) ∧ w = w')
    (h6 : ∀ w, Calls Try.prog 16 #[.int .u64 X] w fun e w' => e = .returned (.int .i64 o2) ∧ w = w')
    (h7 : ∀ w, Calls Try.prog 18 #[.int .u64 s] w fun e w' => e = .returned (.int .i64 k) ∧ w = w')
    (w : World) :
    Calls Try.prog 7 #[.int .u64 X] w fun e w' => e = .returned (.bool true) ∧ Grown w w' := by
  have t : ((o1 : Int) == o2 - 1) = true := by simp; omega
  go_enter Try.func7, Try.ntmps7
  go_wp2_with fail
  (with_reducible refine (h1 _).mono ?_)
  rintro e w' ⟨rfl, rfl⟩
  go_wp2_with fail
  (with_reducible refine (h2 _).mono ?_)
  rintro e w' ⟨rfl, d1⟩
  go_wp2_with fail
  (with_reducible refine (h3 _).mono ?_)
  rintro e w' ⟨rfl, d2⟩
  go_wp2_with fail
  (with_reducible refine (h4 _).mono ?_)
  rintro e w' ⟨rfl, d3⟩
  go_wp2_with fail
  (with_reducible refine (h5 _).mono ?_)
  rintro e w' ⟨rfl, rfl⟩
  go_wp2_with fail
  (with_reducible refine (h6 _).mono ?_)
  rintro e w' ⟨rfl, rfl⟩
  go_wp2_with fail
  (with_reducible refine (h7 _).mono ?_)
  rintro e w' ⟨rfl, rfl⟩
  go_wp2_with fail
  (with_reducible refine (awake_any _).mono ?_)
  rintro e w' ⟨rfl, d6⟩
  go_wp2
  go_ret
  exact ⟨rfl, (((d1.trans d2).trans d3).trans d6).grown⟩

theorem walk (a0 : Int) (w0 : (Lit.int .u64 a0).wf = true) (w : World) :
    Calls Try.prog 7 #[.int .u64 a0] w fun e w' => e = .returned (.bool true) ∧ Grown w w' := by
  obtain ⟨n0, rfl, b0⟩ := u64_nat w0
  by_cases c : n0 = 0
  · subst c
    exact core_zero _ _ rfl rfl (fun w => by have h := low_any 0 (by decide) w; rw [low_zero] at h; exact h) (fun w => by have h := ones_any 0 (by decide) w; rw [ones_zero] at h; exact h) w
  · have hi := low_lt n0 (by omega) b0
    have hs := setN_lt n0 (low n0) 1 0 b0 (by omega)
    refine core n0 (by omega) (low n0) (setN n0 (low n0) 1 0) (ones (setN n0 (low n0) 1 0) 64) (ones n0 64) (low (setN n0 (low n0) 1 0)) hi (low_up n0 _ b0 hi (low_below n0)) (ones_set n0 _ 64 b0 hi (low_bit n0 hi) hi) (ones_le _ _)
      (low_any n0 b0) (set_any n0 (low n0) 1 0 b0 (by decide) (by omega)) (fun w => ?_) (fun w => ?_) (ones_any _ hs) (ones_any _ b0) (low_any _ hs) w
    · have h := get_any n0 (low n0) 1 b0 (by omega) w
      rw [get_low n0 hi] at h
      exact h
    · have h := get_any n0 0 (low n0) b0 (by omega) w
      rw [get_below n0 _ (low_below n0)] at h
      exact h

set_option maxRecDepth 100000 in
theorem lifted (os : Os) (started : os.Started) (H : Type) (enc : TypeId × Value → H) :
    ReturnsInHanded {} Try.checked os 7 .any (Rows.wordLowestsSpec.pre6 enc Try.prog Try.f7 Rows.wordLowestsRow.domain false) (Rows.wordLowestsSpec.post enc Try.prog Try.f7 false true false false) := by
  refine returnsInHanded_of_change (C := Try.checked) own started (by kernel_rfl) Try.func7
    (ChangeSpec.witness6 (enc := enc) (C := Try.checked) false ⟨#[], #[.int .u64 0], []⟩ 8 (by kernel_rfl) (by kernel_rfl) (by kernel_rfl) (by kernel_rfl)) ?_
  intro W base args ds gs before hval0 hW hcnd _
  have hval : ∀ (j : Nat) t v, Try.f7.params[j]? = some t → args[j]? = some v → Value.okWide Try.prog W .any base t v := hval0
  have hW' := hW
  obtain ⟨p, q, hA0, hV, rfl, hfz, hnd⟩ := hW
  have hA : DataW.TrodAll enc Try.prog W 0 (fun _ => true) true Try.f7.params.toList args.toList ds p := hA0
  rw [Try.params7] at hA hval
  obtain ⟨v0, vs0, d0, ds0, p0, q0, hargs, rfl, rfl, h0, r0⟩ := trodAll_cons hA
  obtain ⟨rfl, rfl, rfl⟩ := trodAll_nil r0
  obtain rfl : args = #[v0] := by cases args; simp_all
  obtain ⟨rfl, rfl⟩ := trodVars_none hV
  obtain ⟨a0, rfl, rfl, rfl, w0⟩ := open_int Try.underlying22 (hval 0 22 v0 rfl rfl) h0
  clear hA0 hval0
  simp only [List.append_nil] at hW'
  refine (walk a0 w0 W).mono fun e W' ⟨he, hg⟩ => ?_
  subst he
  exact ⟨_, rfl, post_of_same (pa := []) (pv := []) hW' (fun _ _ _ => (trodAll_cons_mk (shut_bool Try.underlying4 _) trodAll_mk0)) (fun sp _ => (trodAll_cons_mk (shut_int Try.underlying22 w0) trodAll_mk0)) (fun _ _ => rfl) rfl
    (hg.frame _) hg.2.1 (ok_one (by kernel_rfl) rfl (okWide_bool_mk Try.underlying4 _))⟩

theorem over : Rows.wordLowestsRow.holds Try.pinned (OpenSpec.ofChange Rows.wordLowestsSpec) :=
  OpenClaim.holds_of_wide 7 Try.f7 rfl rfl rfl rfl rfl rfl rfl ⟨rfl, rfl, rfl, rfl, rfl⟩ rfl rfl rfl rfl rfl (by kernel_rfl) Try.func7 (by kernel_rfl)
    (of_decide_eq_true (by kernel_rfl)) (by unfold Func.isWrapper; first | (rw [if_pos (by decide +kernel)]; kernel_rfl) | (rw [if_neg (by decide +kernel)]; exact ⟨rfl, rfl⟩))
    (fun os started H enc _ => lifted os started H enc)

theorem proved : Rows.WordLowestsSaid :=
  over
#print axioms proved
end Go.Proofs.Ytckaboomeicofaa.wordLowests
