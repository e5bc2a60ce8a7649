/-
  Proved: WordNone returns true for every input, and leaves its arguments as they were. No conditions.
-/
import Derived.Test.YtckaboomeicofaaRows
import Derived.WalkKit
import Derived.ProofKit
import Derived.OpenShut
import Derived.Test.YtckaboomeicofaaJump
import Derived.ShutString
namespace Go.Proofs.Ytckaboomeicofaa.wordNone
open Go.ChangeShapes Go.WideShapes Go.ChangeAt Go.RowKit Go.Flo Go.Bit
open Go.ChangeMaps (open_string shut_string)
set_option linter.unusedVariables false

theorem own : ownKnob Try.prog.godebug = none := by kernel_rfl

theorem core_yes (X V F M : Int) (c1 : 0 ≤ F) (c2 : 0 ≤ M) (c3 : F ≤ 64) (c4 : M ≤ 64 - F) (w : World) :
    Calls Try.prog 9 #[.int .u64 X, .int .u64 V, .int .i64 F, .int .i64 M] w fun e w' => e = .returned (.bool true) ∧ Grown w w' := by
  go_enter Try.func9, Try.ntmps9
  go_wp2_with fail
  (with_reducible refine (awake_any _).mono ?_)
  rintro e w' ⟨rfl, d3⟩
  go_wp2
  go_ret
  exact ⟨rfl, d3.grown⟩

/-- The law's own test, in one word. -/
def Test (F M : Int) : Prop := 0 ≤ F ∧ 0 ≤ M ∧ F ≤ 64 ∧ M ≤ 64 - F

theorem core_no (X V F M : Int) (hf : -9223372036854775808 ≤ F) (hf' : F ≤ 9223372036854775807) (c : ¬ Test F M)
    (h1 : ∀ w, Calls Try.prog 11 #[.int .u64 X, .int .i64 F, .int .i64 M] w fun e w' => e = .returned (.int .u64 0) ∧ w = w')
    (h2 : ∀ w, Calls Try.prog 13 #[.int .u64 X, .int .i64 F, .int .i64 M, .int .u64 V] w fun e w' => e = .returned (.int .u64 X) ∧ w = w')
    (h3 : ∀ w, Calls Try.prog 13 #[.int .u64 X, .int .i64 5, .int .i64 0, .int .u64 V] w fun e w' => e = .returned (.int .u64 X) ∧ Dr w w')
    (w : World) :
    Calls Try.prog 9 #[.int .u64 X, .int .u64 V, .int .i64 F, .int .i64 M] w fun e w' => e = .returned (.bool true) ∧ Grown w w' := by
  unfold Test at c
  by_cases c1 : 0 ≤ F
  · by_cases c2 : 0 ≤ M
    · by_cases c3 : F ≤ 64
      · have c4 : ¬ M ≤ 64 - F := by omega
        clear c
        go_enter Try.func9, Try.ntmps9
        go_wp2_with fail
        (with_reducible refine (h1 _).mono ?_)
        rintro e w' ⟨rfl, rfl⟩
        go_wp2_with fail
        (with_reducible refine (h2 _).mono ?_)
        rintro e w' ⟨rfl, rfl⟩
        go_wp2_with fail
        (with_reducible refine (h3 _).mono ?_)
        rintro e w' ⟨rfl, d1⟩
        go_wp2_with fail
        (with_reducible refine (awake_any _).mono ?_)
        rintro e w' ⟨rfl, d3⟩
        go_wp2
        go_ret
        exact ⟨rfl, (d1.trans d3).grown⟩
      · clear c
        go_enter Try.func9, Try.ntmps9
        go_wp2_with fail
        (with_reducible refine (h1 _).mono ?_)
        rintro e w' ⟨rfl, rfl⟩
        go_wp2_with fail
        (with_reducible refine (h2 _).mono ?_)
        rintro e w' ⟨rfl, rfl⟩
        go_wp2_with fail
        (with_reducible refine (h3 _).mono ?_)
        rintro e w' ⟨rfl, d1⟩
        go_wp2_with fail
        (with_reducible refine (awake_any _).mono ?_)
        rintro e w' ⟨rfl, d3⟩
        go_wp2
        go_ret
        exact ⟨rfl, (d1.trans d3).grown⟩
    · clear c
      go_enter Try.func9, Try.ntmps9
      go_wp2_with fail
      (with_reducible refine (h1 _).mono ?_)
      rintro e w' ⟨rfl, rfl⟩
      go_wp2_with fail
      (with_reducible refine (h2 _).mono ?_)
      rintro e w' ⟨rfl, rfl⟩
      go_wp2_with fail
      (with_reducible refine (h3 _).mono ?_)
      rintro e w' ⟨rfl, d1⟩
      go_wp2_with fail
      (with_reducible refine (awake_any _).mono ?_)
      rintro e w' ⟨rfl, d3⟩
      go_wp2
      go_ret
      exact ⟨rfl, (d1.trans d3).grown⟩
  · clear c
    go_enter Try.func9, Try.ntmps9
    go_wp2_with fail
    (with_reducible refine (h1 _).mono ?_)
    rintro e w' ⟨rfl, rfl⟩
    go_wp2_with fail
    (with_reducible refine (h2 _).mono ?_)
    rintro e w' ⟨rfl, rfl⟩
    go_wp2_with fail
    (with_reducible refine (h3 _).mono ?_)
    rintro e w' ⟨rfl, d1⟩
    go_wp2_with fail
    (with_reducible refine (awake_any _).mono ?_)
    rintro e w' ⟨rfl, d3⟩
    go_wp2
    go_ret
    exact ⟨rfl, (d1.trans d3).grown⟩

theorem walk (a0 : Int) (a1 : Int) (a2 : Int) (a3 : Int) (w0 : (Lit.int .u64 a0).wf = true) (w1 : (Lit.int .u64 a1).wf = true) (w2 : (Lit.int .i64 a2).wf = true) (w3 : (Lit.int .i64 a3).wf = true) (w : World) :
    Calls Try.prog 9 #[.int .u64 a0, .int .u64 a1, .int .i64 a2, .int .i64 a3] w fun e w' => e = .returned (.bool true) ∧ Grown w w' := by
  obtain ⟨n0, rfl, b0⟩ := u64_nat w0
  obtain ⟨n1, rfl, b1⟩ := u64_nat w1
  have b2 := bounds_i64 w2
  by_cases c : Test a2 a3
  · exact core_yes _ _ _ _ c.1 c.2.1 c.2.2.1 c.2.2.2 w
  · have cf : ¬ Fits a2 a3 := fun h => c ⟨h.1, h.2.1, by have := h.2.2; have := h.2.1; omega, h.2.2⟩
    refine core_no _ _ _ _ b2.1 b2.2 c (get_none n0 a2 a3 b2.1 b2.2 cf) (set_none n0 n1 a2 a3 b2.1 b2.2 cf) (fun w => ?_) w
    have h := set_any n0 5 0 n1 b0 b1 (by decide) w
    rw [setN_zero n0 5 n1 b0 (by decide)] at h
    exact h

set_option maxRecDepth 100000 in
theorem lifted (os : Os) (started : os.Started) (H : Type) (enc : TypeId × Value → H) :
    ReturnsInHanded {} Try.checked os 9 .any (Rows.wordNoneSpec.pre6 enc Try.prog Try.f9 Rows.wordNoneRow.domain false) (Rows.wordNoneSpec.post enc Try.prog Try.f9 false true false false) := by
  refine returnsInHanded_of_change (C := Try.checked) own started (by kernel_rfl) Try.func9
    (ChangeSpec.witness6 (enc := enc) (C := Try.checked) false ⟨#[], #[.int .u64 0, .int .u64 0, .int .i64 0, .int .i64 0], []⟩ 8 (by kernel_rfl) (by kernel_rfl) (by kernel_rfl) (by kernel_rfl)) ?_
  intro W base args ds gs before hval0 hW hcnd _
  have hval : ∀ (j : Nat) t v, Try.f9.params[j]? = some t → args[j]? = some v → Value.okWide Try.prog W .any base t v := hval0
  have hW' := hW
  obtain ⟨p, q, hA0, hV, rfl, hfz, hnd⟩ := hW
  have hA : DataW.TrodAll enc Try.prog W 0 (fun _ => true) true Try.f9.params.toList args.toList ds p := hA0
  rw [Try.params9] at hA hval
  obtain ⟨v0, vs0, d0, ds0, p0, q0, hargs, rfl, rfl, h0, r0⟩ := trodAll_cons hA
  obtain ⟨v1, vs1, d1, ds1, p1, q1, rfl, rfl, rfl, h1, r1⟩ := trodAll_cons r0
  obtain ⟨v2, vs2, d2, ds2, p2, q2, rfl, rfl, rfl, h2, r2⟩ := trodAll_cons r1
  obtain ⟨v3, vs3, d3, ds3, p3, q3, rfl, rfl, rfl, h3, r3⟩ := trodAll_cons r2
  obtain ⟨rfl, rfl, rfl⟩ := trodAll_nil r3
  obtain rfl : args = #[v0, v1, v2, v3] := by cases args; simp_all
  obtain ⟨rfl, rfl⟩ := trodVars_none hV
  obtain ⟨a0, rfl, rfl, rfl, w0⟩ := open_int Try.underlying22 (hval 0 22 v0 rfl rfl) h0
  obtain ⟨a1, rfl, rfl, rfl, w1⟩ := open_int Try.underlying22 (hval 1 22 v1 rfl rfl) h1
  obtain ⟨a2, rfl, rfl, rfl, w2⟩ := open_int Try.underlying3 (hval 2 3 v2 rfl rfl) h2
  obtain ⟨a3, rfl, rfl, rfl, w3⟩ := open_int Try.underlying3 (hval 3 3 v3 rfl rfl) h3
  clear hA0 hval0
  simp only [List.append_nil] at hW'
  refine (walk a0 a1 a2 a3 w0 w1 w2 w3 W).mono fun e W' ⟨he, hg⟩ => ?_
  subst he
  exact ⟨_, rfl, post_of_same (pa := []) (pv := []) hW' (fun _ _ _ => (trodAll_cons_mk (shut_bool Try.underlying4 _) trodAll_mk0)) (fun sp _ => (trodAll_cons_mk (shut_int Try.underlying22 w0) (trodAll_cons_mk (shut_int Try.underlying22 w1) (trodAll_cons_mk (shut_int Try.underlying3 w2) (trodAll_cons_mk (shut_int Try.underlying3 w3) trodAll_mk0))))) (fun _ _ => rfl) rfl
    (hg.frame _) hg.2.1 (ok_one (by kernel_rfl) rfl (okWide_bool_mk Try.underlying4 _))⟩

theorem over : Rows.wordNoneRow.holds Try.pinned (OpenSpec.ofChange Rows.wordNoneSpec) :=
  OpenClaim.holds_of_wide 9 Try.f9 rfl rfl rfl rfl rfl rfl rfl ⟨rfl, rfl, rfl, rfl, rfl⟩ rfl rfl rfl rfl rfl (by kernel_rfl) Try.func9 (by kernel_rfl)
    (of_decide_eq_true (by kernel_rfl)) (by unfold Func.isWrapper; first | (rw [if_pos (by decide +kernel)]; kernel_rfl) | (rw [if_neg (by decide +kernel)]; exact ⟨rfl, rfl⟩))
    (fun os started H enc _ => lifted os started H enc)

theorem proved : Rows.WordNoneSaid :=
  over
#print axioms proved
end Go.Proofs.Ytckaboomeicofaa.wordNone
