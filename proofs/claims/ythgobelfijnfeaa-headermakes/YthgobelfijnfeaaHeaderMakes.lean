/-
  Proved: HeaderMakes returns true for every input, and leaves its arguments as they were. No conditions.
-/
import Derived.Test.YthgobelfijnfeaaRows
import Derived.WalkKit
import Derived.ProofKit
import Derived.OpenShut
import Derived.Test.YthgobelfijnfeaaHdr3
import Derived.ShutString
namespace Go.Proofs.Ythgobelfijnfeaa.headerMakes
open Go.ChangeShapes Go.WideShapes Go.ChangeAt Go.RowKit Go.Flo Go.Bit
open Go.ChangeMaps (open_string shut_string)
set_option linter.unusedVariables false

theorem own : ownKnob Try.prog.godebug = none := by kernel_rfl

set_option maxHeartbeats 400000 in
theorem core0 (K M T X O z c : Int)
    (h1 : ∀ w, Calls Try.prog 8 #[.int .u64 X] w fun e w' => e = .returned (.tuple #[.int .i64 0, .int .i64 0, .int .u64 0, .bool false]) ∧ Dr w w')
    (h2 : ∀ w, Calls Try.prog 9 #[.int .u64 X] w fun e w' => e = .returned (.tuple #[.int .i64 0, .int .i64 0, .int .u64 0, .bool false]) ∧ w = w')
    (h4 : ∀ w, Calls Try.prog 11 #[.int .i64 K, .int .i64 M, .int .u64 T] w fun e w' => e = .returned (.int .u64 z) ∧ Dr w w')
    (h5 : ∀ w, Calls Try.prog 10 #[.int .i64 K, .int .i64 M, .int .u64 T] w fun e w' => e = .returned (.int .u64 z) ∧ w = w')
    (h6 : ∀ w, Calls Try.prog 12 #[.int .u64 X, .int .u64 O] w fun e w' => e = .returned (.int .u64 0) ∧ Dr w w')
    (h7 : ∀ w, Calls Try.prog 13 #[.int .u64 X] w fun e w' => e = .returned (.int .u64 c) ∧ Dr w w')
    (h8 : ∀ w, Calls Try.prog 14 #[.int .u64 X] w fun e w' => e = .returned (.int .u64 c) ∧ w = w')
    (w : World) :
    Calls Try.prog 3 #[.int .i64 K, .int .i64 M, .int .u64 T, .int .u64 X, .int .u64 O] w fun e w' => e = .returned (.bool true) ∧ Grown w w' := by
  have D := Dr.refl w
  go_enter Try.func3, Try.ntmps3
  go_wp2_with fail
  (with_reducible refine (h1 _).mono ?_)
  rintro e w' ⟨rfl, d⟩
  replace D := D.trans d
  clear d
  go_wp2_with fail
  (with_reducible refine (h2 _).mono ?_)
  rintro e w' ⟨rfl, rfl⟩
  go_wp2_with fail
  (with_reducible refine (h4 _).mono ?_)
  rintro e w' ⟨rfl, d⟩
  replace D := D.trans d
  clear d
  go_wp2_with fail
  (with_reducible refine (h5 _).mono ?_)
  rintro e w' ⟨rfl, rfl⟩
  go_wp2_with fail
  (with_reducible refine (h6 _).mono ?_)
  rintro e w' ⟨rfl, d⟩
  replace D := D.trans d
  clear d
  go_wp2_with fail
  (with_reducible refine (h7 _).mono ?_)
  rintro e w' ⟨rfl, d⟩
  replace D := D.trans d
  clear d
  go_wp2_with fail
  (with_reducible refine (h8 _).mono ?_)
  rintro e w' ⟨rfl, rfl⟩
  go_wp2_with fail
  (with_reducible refine (awake_any _).mono ?_)
  rintro e w' ⟨rfl, d⟩
  replace D := D.trans d
  clear d
  go_wp2
  go_ret
  exact ⟨rfl, D.grown⟩

set_option maxHeartbeats 400000 in
theorem core1 (K M T X O z c k m q v : Int)
    (h1 : ∀ w, Calls Try.prog 8 #[.int .u64 X] w fun e w' => e = .returned (.tuple #[.int .i64 k, .int .i64 m, .int .u64 q, .bool true]) ∧ Dr w w')
    (h2 : ∀ w, Calls Try.prog 9 #[.int .u64 X] w fun e w' => e = .returned (.tuple #[.int .i64 k, .int .i64 m, .int .u64 q, .bool true]) ∧ w = w')
    (h3 : ∀ w, Calls Try.prog 10 #[.int .i64 k, .int .i64 m, .int .u64 O] w fun e w' => e = .returned (.int .u64 v) ∧ w = w')
    (h4 : ∀ w, Calls Try.prog 11 #[.int .i64 K, .int .i64 M, .int .u64 T] w fun e w' => e = .returned (.int .u64 z) ∧ Dr w w')
    (h5 : ∀ w, Calls Try.prog 10 #[.int .i64 K, .int .i64 M, .int .u64 T] w fun e w' => e = .returned (.int .u64 z) ∧ w = w')
    (h6 : ∀ w, Calls Try.prog 12 #[.int .u64 X, .int .u64 O] w fun e w' => e = .returned (.int .u64 v) ∧ Dr w w')
    (h7 : ∀ w, Calls Try.prog 13 #[.int .u64 X] w fun e w' => e = .returned (.int .u64 c) ∧ Dr w w')
    (h8 : ∀ w, Calls Try.prog 14 #[.int .u64 X] w fun e w' => e = .returned (.int .u64 c) ∧ w = w')
    (w : World) :
    Calls Try.prog 3 #[.int .i64 K, .int .i64 M, .int .u64 T, .int .u64 X, .int .u64 O] w fun e w' => e = .returned (.bool true) ∧ Grown w w' := by
  have D := Dr.refl w
  go_enter Try.func3, Try.ntmps3
  go_wp2_with fail
  (with_reducible refine (h1 _).mono ?_)
  rintro e w' ⟨rfl, d⟩
  replace D := D.trans d
  clear d
  go_wp2_with fail
  (with_reducible refine (h2 _).mono ?_)
  rintro e w' ⟨rfl, rfl⟩
  go_wp2_with fail
  (with_reducible refine (h3 _).mono ?_)
  rintro e w' ⟨rfl, rfl⟩
  go_wp2_with fail
  (with_reducible refine (h4 _).mono ?_)
  rintro e w' ⟨rfl, d⟩
  replace D := D.trans d
  clear d
  go_wp2_with fail
  (with_reducible refine (h5 _).mono ?_)
  rintro e w' ⟨rfl, rfl⟩
  go_wp2_with fail
  (with_reducible refine (h6 _).mono ?_)
  rintro e w' ⟨rfl, d⟩
  replace D := D.trans d
  clear d
  go_wp2_with fail
  (with_reducible refine (h7 _).mono ?_)
  rintro e w' ⟨rfl, d⟩
  replace D := D.trans d
  clear d
  go_wp2_with fail
  (with_reducible refine (h8 _).mono ?_)
  rintro e w' ⟨rfl, rfl⟩
  go_wp2_with fail
  (with_reducible refine (awake_any _).mono ?_)
  rintro e w' ⟨rfl, d⟩
  replace D := D.trans d
  clear d
  go_wp2
  go_ret
  exact ⟨rfl, D.grown⟩

theorem walk (a0 : Int) (a1 : Int) (a2 : Int) (a3 : Int) (a4 : Int) (w0 : (Lit.int .i64 a0).wf = true) (w1 : (Lit.int .i64 a1).wf = true) (w2 : (Lit.int .u64 a2).wf = true) (w3 : (Lit.int .u64 a3).wf = true) (w4 : (Lit.int .u64 a4).wf = true) (w : World) :
    Calls Try.prog 3 #[.int .i64 a0, .int .i64 a1, .int .u64 a2, .int .u64 a3, .int .u64 a4] w fun e w' => e = .returned (.bool true) ∧ Grown w w' := by
  obtain ⟨t, rfl, b2⟩ := u64_nat w2
  obtain ⟨x, rfl, b3⟩ := u64_nat w3
  obtain ⟨o, rfl, b4⟩ := u64_nat w4
  obtain ⟨z, h4, h5⟩ : ∃ z : Nat, (∀ w, Calls Try.prog 11 #[.int .i64 a0, .int .i64 a1, .int .u64 t] w fun e w' => e = .returned (.int .u64 z) ∧ Dr w w') ∧
      ∀ w, Calls Try.prog 10 #[.int .i64 a0, .int .i64 a1, .int .u64 t] w fun e w' => e = .returned (.int .u64 z) ∧ w = w' := by
    by_cases c : MayH a0 a1
    · obtain ⟨⟨c1, c2⟩, c3, c4⟩ := c
      obtain ⟨k, rfl⟩ : ∃ k : Nat, a0 = k := ⟨a0.toNat, by omega⟩
      obtain ⟨m, rfl⟩ : ∃ m : Nat, a1 = m := ⟨a1.toNat, by omega⟩
      exact ⟨_, make_yes k m t (by omega) (by omega) (by omega) b2, rheader_yes k m t (by omega) (by omega) (by omega) b2⟩
    · exact ⟨0, make_no a0 a1 t c, rheader_no a0 a1 t c⟩
  by_cases h : IsH x
  · exact core1 a0 a1 t x o z _ _ _ _ _ (parse_yes x b3 h) (rparse_yes x b3 h) (rheader_yes _ _ o (getN_lt x 0 4) h.1.1 h.1.2 b4) h4 h5 (epoch_yes x o b3 b4 h) (check_any x b3) (rcheck_any x b3) w
  · exact core0 a0 a1 t x o z _ (parse_no x b3 h) (rparse_no x b3 h) h4 h5 (epoch_no x o b3 h) (check_any x b3) (rcheck_any x b3) w

set_option maxRecDepth 100000 in
theorem lifted (os : Os) (started : os.Started) (H : Type) (enc : TypeId × Value → H) :
    ReturnsInHanded {} Try.checked os 3 .any (Rows.headerMakesSpec.pre6 enc Try.prog Try.f3 Rows.headerMakesRow.domain false) (Rows.headerMakesSpec.post enc Try.prog Try.f3 false true false false) := by
  refine returnsInHanded_of_change (C := Try.checked) own started (by kernel_rfl) Try.func3
    (ChangeSpec.witness6 (enc := enc) (C := Try.checked) false ⟨#[], #[.int .i64 0, .int .i64 0, .int .u64 0, .int .u64 0, .int .u64 0], []⟩ 8 (by kernel_rfl) (by kernel_rfl) (by kernel_rfl) (by kernel_rfl)) ?_
  intro W base args ds gs before hval0 hW hcnd _
  have hval : ∀ (j : Nat) t v, Try.f3.params[j]? = some t → args[j]? = some v → Value.okWide Try.prog W .any base t v := hval0
  have hW' := hW
  obtain ⟨p, q, hA0, hV, rfl, hfz, hnd⟩ := hW
  have hA : DataW.TrodAll enc Try.prog W 0 (fun _ => true) true Try.f3.params.toList args.toList ds p := hA0
  rw [Try.params3] at hA hval
  obtain ⟨v0, vs0, d0, ds0, p0, q0, hargs, rfl, rfl, h0, r0⟩ := trodAll_cons hA
  obtain ⟨v1, vs1, d1, ds1, p1, q1, rfl, rfl, rfl, h1, r1⟩ := trodAll_cons r0
  obtain ⟨v2, vs2, d2, ds2, p2, q2, rfl, rfl, rfl, h2, r2⟩ := trodAll_cons r1
  obtain ⟨v3, vs3, d3, ds3, p3, q3, rfl, rfl, rfl, h3, r3⟩ := trodAll_cons r2
  obtain ⟨v4, vs4, d4, ds4, p4, q4, rfl, rfl, rfl, h4, r4⟩ := trodAll_cons r3
  obtain ⟨rfl, rfl, rfl⟩ := trodAll_nil r4
  obtain rfl : args = #[v0, v1, v2, v3, v4] := by cases args; simp_all
  obtain ⟨rfl, rfl⟩ := trodVars_none hV
  obtain ⟨a0, rfl, rfl, rfl, w0⟩ := open_int Try.underlying3 (hval 0 3 v0 rfl rfl) h0
  obtain ⟨a1, rfl, rfl, rfl, w1⟩ := open_int Try.underlying3 (hval 1 3 v1 rfl rfl) h1
  obtain ⟨a2, rfl, rfl, rfl, w2⟩ := open_int Try.underlying22 (hval 2 22 v2 rfl rfl) h2
  obtain ⟨a3, rfl, rfl, rfl, w3⟩ := open_int Try.underlying22 (hval 3 22 v3 rfl rfl) h3
  obtain ⟨a4, rfl, rfl, rfl, w4⟩ := open_int Try.underlying22 (hval 4 22 v4 rfl rfl) h4
  clear hA0 hval0
  simp only [List.append_nil] at hW'
  refine (walk a0 a1 a2 a3 a4 w0 w1 w2 w3 w4 W).mono fun e W' ⟨he, hg⟩ => ?_
  subst he
  exact ⟨_, rfl, post_of_same (pa := []) (pv := []) hW' (fun _ _ _ => (trodAll_cons_mk (shut_bool Try.underlying4 _) trodAll_mk0)) (fun sp _ => (trodAll_cons_mk (shut_int Try.underlying3 w0) (trodAll_cons_mk (shut_int Try.underlying3 w1) (trodAll_cons_mk (shut_int Try.underlying22 w2) (trodAll_cons_mk (shut_int Try.underlying22 w3) (trodAll_cons_mk (shut_int Try.underlying22 w4) trodAll_mk0)))))) (fun _ _ => rfl) rfl
    (hg.frame _) hg.2.1 (ok_one (by kernel_rfl) rfl (okWide_bool_mk Try.underlying4 _))⟩

theorem over : Rows.headerMakesRow.holds Try.pinned (OpenSpec.ofChange Rows.headerMakesSpec) :=
  OpenClaim.holds_of_wide 3 Try.f3 rfl rfl rfl rfl rfl rfl rfl ⟨rfl, rfl, rfl, rfl, rfl⟩ rfl rfl rfl rfl rfl (by kernel_rfl) Try.func3 (by kernel_rfl)
    (of_decide_eq_true (by kernel_rfl)) (by unfold Func.isWrapper; first | (rw [if_pos (by decide +kernel)]; kernel_rfl) | (rw [if_neg (by decide +kernel)]; exact ⟨rfl, rfl⟩))
    (fun os started H enc _ => lifted os started H enc)

theorem proved : Rows.HeaderMakesSaid :=
  over
#print axioms proved
end Go.Proofs.Ythgobelfijnfeaa.headerMakes
