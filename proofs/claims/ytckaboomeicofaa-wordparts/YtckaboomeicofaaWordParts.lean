/-
  Proved: WordParts returns true for every input, and leaves its arguments as they were. No conditions.
-/
import Derived.Test.YtckaboomeicofaaRows
import Derived.WalkKit
import Derived.ProofKit
import Derived.OpenShut
import Derived.Test.YtckaboomeicofaaJump
import Derived.ShutString
namespace Go.Proofs.Ytckaboomeicofaa.wordParts
open Go.ChangeShapes Go.WideShapes Go.ChangeAt Go.RowKit Go.Flo Go.Bit
open Go.ChangeMaps (open_string shut_string)
set_option linter.unusedVariables false

theorem own : ownKnob Try.prog.godebug = none := by kernel_rfl

theorem core (X A : Int) (at_ : Nat) (g1 s1 g2 : Int) (ha : at_ ≤ 64) (hA : wrap64 ((IntKind.u64.wrap A).tmod 65) = at_)
    (h1 : ∀ w, Calls Try.prog 11 #[.int .u64 X, .int .i64 0, .int .i64 at_] w fun e w' => e = .returned (.int .u64 g1) ∧ Dr w w')
    (h2 : ∀ w, Calls Try.prog 13 #[.int .u64 0, .int .i64 0, .int .i64 at_, .int .u64 g1] w fun e w' => e = .returned (.int .u64 s1) ∧ Dr w w')
    (h3 : ∀ w, Calls Try.prog 11 #[.int .u64 X, .int .i64 at_, .int .i64 (64 - at_)] w fun e w' => e = .returned (.int .u64 g2) ∧ Dr w w')
    (h4 : ∀ w, Calls Try.prog 13 #[.int .u64 s1, .int .i64 at_, .int .i64 (64 - at_), .int .u64 g2] w fun e w' => e = .returned (.int .u64 X) ∧ Dr w w')
    (h5 : ∀ w, Calls Try.prog 11 #[.int .u64 X, .int .i64 0, .int .i64 64] w fun e w' => e = .returned (.int .u64 X) ∧ Dr w w')
    (w : World) :
    Calls Try.prog 8 #[.int .u64 X, .int .i64 A] w fun e w' => e = .returned (.bool true) ∧ Grown w w' := by
  go_enter Try.func8, Try.ntmps8
  go_wp2_with fail
  simp only [hA]
  (with_reducible refine (h1 _).mono ?_)
  rintro e w' ⟨rfl, d1⟩
  go_wp2_with fail
  (with_reducible refine (h2 _).mono ?_)
  rintro e w' ⟨rfl, d2⟩
  go_wp2_with fail
  (with_reducible refine (h3 _).mono ?_)
  rintro e w' ⟨rfl, d3⟩
  go_wp2_with fail
  (with_reducible refine (h4 _).mono ?_)
  rintro e w' ⟨rfl, d4⟩
  go_wp2_with fail
  (with_reducible refine (h5 _).mono ?_)
  rintro e w' ⟨rfl, d5⟩
  go_wp2_with fail
  (with_reducible refine (awake_any _).mono ?_)
  rintro e w' ⟨rfl, d6⟩
  go_wp2
  go_ret
  exact ⟨rfl, (((((d1.trans d2).trans d3).trans d4).trans d5).trans d6).grown⟩

theorem walk (a0 : Int) (a1 : Int) (w0 : (Lit.int .u64 a0).wf = true) (w1 : (Lit.int .i64 a1).wf = true) (w : World) :
    Calls Try.prog 8 #[.int .u64 a0, .int .i64 a1] w fun e w' => e = .returned (.bool true) ∧ Grown w w' := by
  obtain ⟨n0, rfl, b0⟩ := u64_nat w0
  obtain ⟨f, hf, ef⟩ := slot_mod a1 65 (by decide) (by decide)
  have e64 : (64 : Int) - f = ((64 - f : Nat) : Int) := by omega
  refine core n0 a1 f (getN n0 0 f) (setN 0 0 f (getN n0 0 f)) (getN n0 f (64 - f)) (by omega) ef (get_any n0 0 f b0 (by omega)) (set_any 0 0 f _ (by decide) (getN_lt64 _ _ _ b0) (by omega)) ?_ ?_ (fun w => ?_) w
  · rw [e64]
    exact get_any n0 f (64 - f) b0 (by omega)
  · rw [e64]
    intro w
    have h := set_any (setN 0 0 f (getN n0 0 f)) f (64 - f) (getN n0 f (64 - f)) (setN_lt _ _ _ _ (by decide) (by omega)) (getN_lt64 _ _ _ b0) (by omega) w
    rw [parts n0 f b0 (by omega)] at h
    exact h
  · have h := get_any n0 0 64 b0 (by decide) w
    rw [get_all n0 b0] at h
    exact h

set_option maxRecDepth 100000 in
theorem lifted (os : Os) (started : os.Started) (H : Type) (enc : TypeId × Value → H) :
    ReturnsInHanded {} Try.checked os 8 .any (Rows.wordPartsSpec.pre6 enc Try.prog Try.f8 Rows.wordPartsRow.domain false) (Rows.wordPartsSpec.post enc Try.prog Try.f8 false true false false) := by
  refine returnsInHanded_of_change (C := Try.checked) own started (by kernel_rfl) Try.func8
    (ChangeSpec.witness6 (enc := enc) (C := Try.checked) false ⟨#[], #[.int .u64 0, .int .i64 0], []⟩ 8 (by kernel_rfl) (by kernel_rfl) (by kernel_rfl) (by kernel_rfl)) ?_
  intro W base args ds gs before hval0 hW hcnd _
  have hval : ∀ (j : Nat) t v, Try.f8.params[j]? = some t → args[j]? = some v → Value.okWide Try.prog W .any base t v := hval0
  have hW' := hW
  obtain ⟨p, q, hA0, hV, rfl, hfz, hnd⟩ := hW
  have hA : DataW.TrodAll enc Try.prog W 0 (fun _ => true) true Try.f8.params.toList args.toList ds p := hA0
  rw [Try.params8] at hA hval
  obtain ⟨v0, vs0, d0, ds0, p0, q0, hargs, rfl, rfl, h0, r0⟩ := trodAll_cons hA
  obtain ⟨v1, vs1, d1, ds1, p1, q1, rfl, rfl, rfl, h1, r1⟩ := trodAll_cons r0
  obtain ⟨rfl, rfl, rfl⟩ := trodAll_nil r1
  obtain rfl : args = #[v0, v1] := by cases args; simp_all
  obtain ⟨rfl, rfl⟩ := trodVars_none hV
  obtain ⟨a0, rfl, rfl, rfl, w0⟩ := open_int Try.underlying22 (hval 0 22 v0 rfl rfl) h0
  obtain ⟨a1, rfl, rfl, rfl, w1⟩ := open_int Try.underlying3 (hval 1 3 v1 rfl rfl) h1
  clear hA0 hval0
  simp only [List.append_nil] at hW'
  refine (walk a0 a1 w0 w1 W).mono fun e W' ⟨he, hg⟩ => ?_
  subst he
  exact ⟨_, rfl, post_of_same (pa := []) (pv := []) hW' (fun _ _ _ => (trodAll_cons_mk (shut_bool Try.underlying4 _) trodAll_mk0)) (fun sp _ => (trodAll_cons_mk (shut_int Try.underlying22 w0) (trodAll_cons_mk (shut_int Try.underlying3 w1) trodAll_mk0))) (fun _ _ => rfl) rfl
    (hg.frame _) hg.2.1 (ok_one (by kernel_rfl) rfl (okWide_bool_mk Try.underlying4 _))⟩

theorem over : Rows.wordPartsRow.holds Try.pinned (OpenSpec.ofChange Rows.wordPartsSpec) :=
  OpenClaim.holds_of_wide 8 Try.f8 rfl rfl rfl rfl rfl rfl rfl ⟨rfl, rfl, rfl, rfl, rfl⟩ rfl rfl rfl rfl rfl (by kernel_rfl) Try.func8 (by kernel_rfl)
    (of_decide_eq_true (by kernel_rfl)) (by unfold Func.isWrapper; first | (rw [if_pos (by decide +kernel)]; kernel_rfl) | (rw [if_neg (by decide +kernel)]; exact ⟨rfl, rfl⟩))
    (fun os started H enc _ => lifted os started H enc)

theorem proved : Rows.WordPartsSaid :=
  over
#print axioms proved
end Go.Proofs.Ytckaboomeicofaa.wordParts
