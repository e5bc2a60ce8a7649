/-
  Proved: HeaderMoves returns true for every input, and leaves its arguments as they were. No conditions.
-/
import Derived.Test.YthgobelfijnfeaaRows
import Derived.WalkKit
import Derived.ProofKit
import Derived.OpenShut
import Derived.Test.YthgobelfijnfeaaHdr3
import Derived.ShutString
namespace Go.Proofs.Ythgobelfijnfeaa.headerMoves
open Go.ChangeShapes Go.WideShapes Go.ChangeAt Go.RowKit Go.Flo Go.Bit
open Go.ChangeMaps (open_string shut_string)
set_option linter.unusedVariables false

theorem own : ownKnob Try.prog.godebug = none := by kernel_rfl

set_option maxHeartbeats 400000 in
theorem core0 (X A B : Int)
    (h1 : ∀ w, Calls Try.prog 8 #[.int .u64 X] w fun e w' => e = .returned (.tuple #[.int .i64 0, .int .i64 0, .int .u64 0, .bool false]) ∧ Dr w w')
    (h2 : ∀ w, Calls Try.prog 12 #[.int .u64 X, .int .u64 A] w fun e w' => e = .returned (.int .u64 0) ∧ Dr w w')
    (w : World) :
    Calls Try.prog 5 #[.int .u64 X, .int .u64 A, .int .u64 B] w fun e w' => e = .returned (.bool true) ∧ Grown w w' := by
  have D := Dr.refl w
  go_enter Try.func5, Try.ntmps5
  go_wp2_with fail
  (with_reducible refine (h1 _).mono ?_)
  rintro e w' ⟨rfl, d⟩
  replace D := D.trans d
  clear d
  go_wp2_with fail
  (with_reducible refine (h2 _).mono ?_)
  rintro e w' ⟨rfl, d⟩
  replace D := D.trans d
  clear d
  go_wp2_with fail
  (with_reducible refine (awake_any _).mono ?_)
  rintro e w' ⟨rfl, d⟩
  replace D := D.trans d
  clear d
  go_wp2
  go_ret
  exact ⟨rfl, D.grown⟩

set_option maxHeartbeats 400000 in
theorem core1 (X A B Y Z k m q f : Int) (e1 : bits BinOp.and IntKind.u64 A 4294967295 = f)
    (h1 : ∀ w, Calls Try.prog 8 #[.int .u64 X] w fun e w' => e = .returned (.tuple #[.int .i64 k, .int .i64 m, .int .u64 q, .bool true]) ∧ Dr w w')
    (h2 : ∀ w, Calls Try.prog 12 #[.int .u64 X, .int .u64 A] w fun e w' => e = .returned (.int .u64 Y) ∧ Dr w w')
    (h3 : ∀ w, Calls Try.prog 8 #[.int .u64 Y] w fun e w' => e = .returned (.tuple #[.int .i64 k, .int .i64 m, .int .u64 f, .bool true]) ∧ Dr w w')
    (h4 : ∀ w, Calls Try.prog 12 #[.int .u64 Y, .int .u64 q] w fun e w' => e = .returned (.int .u64 X) ∧ Dr w w')
    (h5 : ∀ w, Calls Try.prog 12 #[.int .u64 Y, .int .u64 B] w fun e w' => e = .returned (.int .u64 Z) ∧ Dr w w')
    (h6 : ∀ w, Calls Try.prog 12 #[.int .u64 X, .int .u64 B] w fun e w' => e = .returned (.int .u64 Z) ∧ Dr w w')
    (w : World) :
    Calls Try.prog 5 #[.int .u64 X, .int .u64 A, .int .u64 B] w fun e w' => e = .returned (.bool true) ∧ Grown w w' := by
  have D := Dr.refl w
  go_enter Try.func5, Try.ntmps5
  go_wp2_with fail
  (with_reducible refine (h1 _).mono ?_)
  rintro e w' ⟨rfl, d⟩
  replace D := D.trans d
  clear d
  go_wp2_with fail
  (with_reducible refine (h2 _).mono ?_)
  rintro e w' ⟨rfl, d⟩
  replace D := D.trans d
  clear d
  go_wp2_with fail
  (with_reducible refine (h3 _).mono ?_)
  rintro e w' ⟨rfl, d⟩
  replace D := D.trans d
  clear d
  go_wp2_with fail
  (with_reducible refine (h4 _).mono ?_)
  rintro e w' ⟨rfl, d⟩
  replace D := D.trans d
  clear d
  go_wp2_with fail
  (with_reducible refine (h5 _).mono ?_)
  rintro e w' ⟨rfl, d⟩
  replace D := D.trans d
  clear d
  go_wp2_with fail
  (with_reducible refine (h6 _).mono ?_)
  rintro e w' ⟨rfl, d⟩
  replace D := D.trans d
  clear d
  go_wp2_with fail
  (with_reducible refine (awake_any _).mono ?_)
  rintro e w' ⟨rfl, d⟩
  replace D := D.trans d
  clear d
  go_wp2
  go_ret
  exact ⟨rfl, D.grown⟩

theorem walk (a0 : Int) (a1 : Int) (a2 : Int) (w0 : (Lit.int .u64 a0).wf = true) (w1 : (Lit.int .u64 a1).wf = true) (w2 : (Lit.int .u64 a2).wf = true) (w : World) :
    Calls Try.prog 5 #[.int .u64 a0, .int .u64 a1, .int .u64 a2] w fun e w' => e = .returned (.bool true) ∧ Grown w w' := by
  obtain ⟨x, rfl, b0⟩ := u64_nat w0
  obtain ⟨a, rfl, b1⟩ := u64_nat w1
  obtain ⟨b, rfl, b2⟩ := u64_nat w2
  by_cases h : IsH x
  · have hk := getN_lt x 0 4
    have hm := h.1.2
    have hy := hd_is (getN x 0 4) (getN x 4 5) a hk h.1.1 hm
    have ly := hd_lt (getN x 0 4) (getN x 4 5) a hk hm
    have h3 := parse_yes _ ly hy
    unfold partsV at h3
    rw [hd_k _ _ _ hk hm, hd_m _ _ _ hk hm, hd_e _ _ _ hk hm] at h3
    have h4 := epoch_yes _ (getN x 9 32) ly (getN_lt64 x 9 32 b0) hy
    rw [hd_k _ _ _ hk hm, hd_m _ _ _ hk hm, is_hd x b0 h] at h4
    have h5 := epoch_yes _ b ly b2 hy
    rw [hd_k _ _ _ hk hm, hd_m _ _ _ hk hm] at h5
    have e1 : bits BinOp.and IntKind.u64 (a : Int) 4294967295 = ((a % 4294967296 : Nat) : Int) := and_mask a 32 b1 (by decide)
    exact core1 x a b _ _ _ _ _ _ e1 (parse_yes x b0 h) (epoch_yes x a b0 b1 h) h3 h4 h5 (epoch_yes x b b0 b2 h) w
  · exact core0 x a b (parse_no x b0 h) (epoch_no x a b0 h) w

set_option maxRecDepth 100000 in
theorem lifted (os : Os) (started : os.Started) (H : Type) (enc : TypeId × Value → H) :
    ReturnsInHanded {} Try.checked os 5 .any (Rows.headerMovesSpec.pre6 enc Try.prog Try.f5 Rows.headerMovesRow.domain false) (Rows.headerMovesSpec.post enc Try.prog Try.f5 false true false false) := by
  refine returnsInHanded_of_change (C := Try.checked) own started (by kernel_rfl) Try.func5
    (ChangeSpec.witness6 (enc := enc) (C := Try.checked) false ⟨#[], #[.int .u64 0, .int .u64 0, .int .u64 0], []⟩ 8 (by kernel_rfl) (by kernel_rfl) (by kernel_rfl) (by kernel_rfl)) ?_
  intro W base args ds gs before hval0 hW hcnd _
  have hval : ∀ (j : Nat) t v, Try.f5.params[j]? = some t → args[j]? = some v → Value.okWide Try.prog W .any base t v := hval0
  have hW' := hW
  obtain ⟨p, q, hA0, hV, rfl, hfz, hnd⟩ := hW
  have hA : DataW.TrodAll enc Try.prog W 0 (fun _ => true) true Try.f5.params.toList args.toList ds p := hA0
  rw [Try.params5] at hA hval
  obtain ⟨v0, vs0, d0, ds0, p0, q0, hargs, rfl, rfl, h0, r0⟩ := trodAll_cons hA
  obtain ⟨v1, vs1, d1, ds1, p1, q1, rfl, rfl, rfl, h1, r1⟩ := trodAll_cons r0
  obtain ⟨v2, vs2, d2, ds2, p2, q2, rfl, rfl, rfl, h2, r2⟩ := trodAll_cons r1
  obtain ⟨rfl, rfl, rfl⟩ := trodAll_nil r2
  obtain rfl : args = #[v0, v1, v2] := by cases args; simp_all
  obtain ⟨rfl, rfl⟩ := trodVars_none hV
  obtain ⟨a0, rfl, rfl, rfl, w0⟩ := open_int Try.underlying22 (hval 0 22 v0 rfl rfl) h0
  obtain ⟨a1, rfl, rfl, rfl, w1⟩ := open_int Try.underlying22 (hval 1 22 v1 rfl rfl) h1
  obtain ⟨a2, rfl, rfl, rfl, w2⟩ := open_int Try.underlying22 (hval 2 22 v2 rfl rfl) h2
  clear hA0 hval0
  simp only [List.append_nil] at hW'
  refine (walk a0 a1 a2 w0 w1 w2 W).mono fun e W' ⟨he, hg⟩ => ?_
  subst he
  exact ⟨_, rfl, post_of_same (pa := []) (pv := []) hW' (fun _ _ _ => (trodAll_cons_mk (shut_bool Try.underlying4 _) trodAll_mk0)) (fun sp _ => (trodAll_cons_mk (shut_int Try.underlying22 w0) (trodAll_cons_mk (shut_int Try.underlying22 w1) (trodAll_cons_mk (shut_int Try.underlying22 w2) trodAll_mk0)))) (fun _ _ => rfl) rfl
    (hg.frame _) hg.2.1 (ok_one (by kernel_rfl) rfl (okWide_bool_mk Try.underlying4 _))⟩

theorem over : Rows.headerMovesRow.holds Try.pinned (OpenSpec.ofChange Rows.headerMovesSpec) :=
  OpenClaim.holds_of_wide 5 Try.f5 rfl rfl rfl rfl rfl rfl rfl ⟨rfl, rfl, rfl, rfl, rfl⟩ rfl rfl rfl rfl rfl (by kernel_rfl) Try.func5 (by kernel_rfl)
    (of_decide_eq_true (by kernel_rfl)) (by unfold Func.isWrapper; first | (rw [if_pos (by decide +kernel)]; kernel_rfl) | (rw [if_neg (by decide +kernel)]; exact ⟨rfl, rfl⟩))
    (fun os started H enc _ => lifted os started H enc)

theorem proved : Rows.HeaderMovesSaid :=
  over
#print axioms proved
end Go.Proofs.Ythgobelfijnfeaa.headerMoves
