/-
  Proved: HeaderTold returns true for every input, and leaves its arguments as they were. No conditions.
-/
import Derived.Test.YthgobelfijnfeaaRows
import Derived.WalkKit
import Derived.ProofKit
import Derived.OpenShut
import Derived.Test.YthgobelfijnfeaaHdr3
import Derived.ShutString
namespace Go.Proofs.Ythgobelfijnfeaa.headerTold
open Go.ChangeShapes Go.WideShapes Go.ChangeAt Go.RowKit Go.Flo Go.Bit
open Go.ChangeMaps (open_string shut_string)
set_option linter.unusedVariables false

theorem own : ownKnob Try.prog.godebug = none := by kernel_rfl

set_option maxHeartbeats 400000 in
theorem core0 (X : Int)
    (h1 : ∀ w, Calls Try.prog 8 #[.int .u64 X] w fun e w' => e = .returned (.tuple #[.int .i64 0, .int .i64 0, .int .u64 0, .bool false]) ∧ Dr w w')
    (w : World) :
    Calls Try.prog 7 #[.int .u64 X] w fun e w' => e = .returned (.bool true) ∧ Grown w w' := by
  have D := Dr.refl w
  go_enter Try.func7, Try.ntmps7
  go_wp2_with fail
  (with_reducible refine (h1 _).mono ?_)
  rintro e w' ⟨rfl, d⟩
  replace D := D.trans d
  clear d
  go_wp2_with fail
  (with_reducible refine (awake_any _).mono ?_)
  rintro e w' ⟨rfl, d⟩
  replace D := D.trans d
  clear d
  go_wp2
  go_ret
  exact ⟨rfl, D.grown⟩

set_option maxHeartbeats 400000 in
theorem core1 (X k m q c : Int) (e1 : X / 72057594037927936 = c)
    (h1 : ∀ w, Calls Try.prog 8 #[.int .u64 X] w fun e w' => e = .returned (.tuple #[.int .i64 k, .int .i64 m, .int .u64 q, .bool true]) ∧ Dr w w')
    (h2 : ∀ w, Calls Try.prog 11 #[.int .i64 k, .int .i64 m, .int .u64 q] w fun e w' => e = .returned (.int .u64 X) ∧ Dr w w')
    (h3 : ∀ w, Calls Try.prog 13 #[.int .u64 X] w fun e w' => e = .returned (.int .u64 c) ∧ Dr w w')
    (w : World) :
    Calls Try.prog 7 #[.int .u64 X] w fun e w' => e = .returned (.bool true) ∧ Grown w w' := by
  have D := Dr.refl w
  go_enter Try.func7, Try.ntmps7
  go_wp2_with fail
  (with_reducible refine (h1 _).mono ?_)
  rintro e w' ⟨rfl, d⟩
  replace D := D.trans d
  clear d
  go_wp2_with fail
  (with_reducible refine (h2 _).mono ?_)
  rintro e w' ⟨rfl, d⟩
  replace D := D.trans d
  clear d
  go_wp2_with fail
  (with_reducible refine (h3 _).mono ?_)
  rintro e w' ⟨rfl, d⟩
  replace D := D.trans d
  clear d
  go_wp2_with fail
  (with_reducible refine (awake_any _).mono ?_)
  rintro e w' ⟨rfl, d⟩
  replace D := D.trans d
  clear d
  go_wp2
  go_ret
  exact ⟨rfl, D.grown⟩

theorem walk (a0 : Int) (w0 : (Lit.int .u64 a0).wf = true) (w : World) :
    Calls Try.prog 7 #[.int .u64 a0] w fun e w' => e = .returned (.bool true) ∧ Grown w w' := by
  obtain ⟨x, rfl, b0⟩ := u64_nat w0
  by_cases h : IsH x
  · have h2 := make_yes (getN x 0 4) (getN x 4 5) (getN x 9 32) (getN_lt x 0 4) h.1.1 h.1.2 (getN_lt64 x 9 32 b0)
    rw [is_hd x b0 h] at h2
    have e1 : (x : Int) / 72057594037927936 = ((hck x : Nat) : Int) := by
      have := h.2.2
      rw [get_c] at this
      omega
    exact core1 x _ _ _ _ e1 (parse_yes x b0 h) h2 (check_any x b0) w
  · exact core0 x (parse_no x b0 h) w

set_option maxRecDepth 100000 in
theorem lifted (os : Os) (started : os.Started) (H : Type) (enc : TypeId × Value → H) :
    ReturnsInHanded {} Try.checked os 7 .any (Rows.headerToldSpec.pre6 enc Try.prog Try.f7 Rows.headerToldRow.domain false) (Rows.headerToldSpec.post enc Try.prog Try.f7 false true false false) := by
  refine returnsInHanded_of_change (C := Try.checked) own started (by kernel_rfl) Try.func7
    (ChangeSpec.witness6 (enc := enc) (C := Try.checked) false ⟨#[], #[.int .u64 0], []⟩ 8 (by kernel_rfl) (by kernel_rfl) (by kernel_rfl) (by kernel_rfl)) ?_
  intro W base args ds gs before hval0 hW hcnd _
  have hval : ∀ (j : Nat) t v, Try.f7.params[j]? = some t → args[j]? = some v → Value.okWide Try.prog W .any base t v := hval0
  have hW' := hW
  obtain ⟨p, q, hA0, hV, rfl, hfz, hnd⟩ := hW
  have hA : DataW.TrodAll enc Try.prog W 0 (fun _ => true) true Try.f7.params.toList args.toList ds p := hA0
  rw [Try.params7] at hA hval
  obtain ⟨v0, vs0, d0, ds0, p0, q0, hargs, rfl, rfl, h0, r0⟩ := trodAll_cons hA
  obtain ⟨rfl, rfl, rfl⟩ := trodAll_nil r0
  obtain rfl : args = #[v0] := by cases args; simp_all
  obtain ⟨rfl, rfl⟩ := trodVars_none hV
  obtain ⟨a0, rfl, rfl, rfl, w0⟩ := open_int Try.underlying22 (hval 0 22 v0 rfl rfl) h0
  clear hA0 hval0
  simp only [List.append_nil] at hW'
  refine (walk a0 w0 W).mono fun e W' ⟨he, hg⟩ => ?_
  subst he
  exact ⟨_, rfl, post_of_same (pa := []) (pv := []) hW' (fun _ _ _ => (trodAll_cons_mk (shut_bool Try.underlying4 _) trodAll_mk0)) (fun sp _ => (trodAll_cons_mk (shut_int Try.underlying22 w0) trodAll_mk0)) (fun _ _ => rfl) rfl
    (hg.frame _) hg.2.1 (ok_one (by kernel_rfl) rfl (okWide_bool_mk Try.underlying4 _))⟩

theorem over : Rows.headerToldRow.holds Try.pinned (OpenSpec.ofChange Rows.headerToldSpec) :=
  OpenClaim.holds_of_wide 7 Try.f7 rfl rfl rfl rfl rfl rfl rfl ⟨rfl, rfl, rfl, rfl, rfl⟩ rfl rfl rfl rfl rfl (by kernel_rfl) Try.func7 (by kernel_rfl)
    (of_decide_eq_true (by kernel_rfl)) (by unfold Func.isWrapper; first | (rw [if_pos (by decide +kernel)]; kernel_rfl) | (rw [if_neg (by decide +kernel)]; exact ⟨rfl, rfl⟩))
    (fun os started H enc _ => lifted os started H enc)

theorem proved : Rows.HeaderToldSaid :=
  over
#print axioms proved
end Go.Proofs.Ythgobelfijnfeaa.headerTold
