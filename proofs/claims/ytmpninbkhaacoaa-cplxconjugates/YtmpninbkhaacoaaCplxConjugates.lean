/-
  Proved: CplxConjugates returns true for every input, and leaves its arguments as they were. No conditions.
-/
import Derived.Test.YtmpninbkhaacoaaRows
import Derived.WalkKit
import Derived.ProofKit
import Derived.OpenShut
import Derived.Test.YtmpninbkhaacoaaBase
import Derived.Test.YtmpninbkhaacoaaOpp
import Derived.ShutString
namespace Go.Proofs.Ytmpninbkhaacoaa.cplxConjugates
open Go.ChangeShapes Go.WideShapes Go.ChangeAt Go.RowKit Go.Flo
open Go.ChangeMaps (open_string shut_string)
set_option linter.unusedVariables false

theorem own : ownKnob Try.prog.godebug = none := by kernel_rfl

/-- The three tests that the law's own function asks of one part. -/
def Tests (x u : Nat) (num : Bool) : Prop :=
  (FloatKind.f64.format.order x u == some Ordering.eq) = num ∧ (FloatKind.f64.format.order x x != some Ordering.eq) = !num ∧ (FloatKind.f64.format.order u u != some Ordering.eq) = !num

theorem tests_of {x u : Nat} (h : AL x u) : ∃ num, Tests x u num := by
  rcases h with ⟨h1, h2, h3⟩ | ⟨h1, h2, h3⟩
  · refine ⟨true, ?_, ?_, ?_⟩
    · show (Ieee.double.order x u == some Ordering.eq) = true
      rw [h1]; rfl
    · show (Ieee.double.order x x != some Ordering.eq) = false
      rw [h2]; rfl
    · show (Ieee.double.order u u != some Ordering.eq) = false
      rw [h3]; rfl
  · refine ⟨false, ?_, ?_, ?_⟩
    · show (Ieee.double.order x u == some Ordering.eq) = false
      rw [h3]; rfl
    · show (Ieee.double.order x x != some Ordering.eq) = true
      rw [h1]; rfl
    · show (Ieee.double.order u u != some Ordering.eq) = true
      rw [h2]; rfl

set_option maxHeartbeats 1000000 in
theorem alike_yes (x y u v : Nat) (h : AL x u) (k : AL y v) (w : World) : Calls Try.prog 29 #[.complex .f64 x y, .complex .f64 u v] w fun e w' => e = .returned (.bool true) ∧ w = w' := by
  obtain ⟨a, h1, h2, h3⟩ := tests_of h
  obtain ⟨b, k1, k2, k3⟩ := tests_of k
  clear h k
  cases a <;> cases b <;> simp only [Bool.not_true, Bool.not_false] at h1 h2 h3 k1 k2 k3
  all_goals
    go_enter Try.func29, Try.ntmps29
    go_wp2
    go_ret
    exact ⟨rfl, rfl⟩

set_option maxRecDepth 100000 in
set_option maxHeartbeats 1000000 in
theorem core (n0 n1 n2 n3 m1 m2 c2 q1 q3 x1 x2 s1 s2 d2 y2 : Nat)
    (hm : ∀ w, Calls Try.prog 21 #[.complex .f64 n0 n1, .complex .f64 n2 n3] w fun e w' => e = .returned (.complex .f64 m1 m2) ∧ Dr w w')
    (hcm : ∀ w, Calls Try.prog 23 #[.complex .f64 m1 m2] w fun e w' => e = .returned (.complex .f64 m1 c2) ∧ w = w')
    (hca : ∀ w, Calls Try.prog 23 #[.complex .f64 n0 n1] w fun e w' => e = .returned (.complex .f64 n0 q1) ∧ w = w')
    (hcb : ∀ w, Calls Try.prog 23 #[.complex .f64 n2 n3] w fun e w' => e = .returned (.complex .f64 n2 q3) ∧ w = w')
    (hmc : ∀ w, Calls Try.prog 21 #[.complex .f64 n0 q1, .complex .f64 n2 q3] w fun e w' => e = .returned (.complex .f64 x1 x2) ∧ Dr w w')
    (ha : ∀ w, Calls Try.prog 19 #[.complex .f64 n0 n1, .complex .f64 n2 n3] w fun e w' => e = .returned (.complex .f64 s1 s2) ∧ Dr w w')
    (hcs : ∀ w, Calls Try.prog 23 #[.complex .f64 s1 s2] w fun e w' => e = .returned (.complex .f64 s1 d2) ∧ w = w')
    (hac : ∀ w, Calls Try.prog 19 #[.complex .f64 n0 q1, .complex .f64 n2 q3] w fun e w' => e = .returned (.complex .f64 s1 y2) ∧ Dr w w')
    (t1 : ∀ w, Calls Try.prog 29 #[.complex .f64 m1 c2, .complex .f64 x1 x2] w fun e w' => e = .returned (.bool true) ∧ w = w')
    (t2 : ∀ w, Calls Try.prog 29 #[.complex .f64 s1 d2, .complex .f64 s1 y2] w fun e w' => e = .returned (.bool true) ∧ w = w')
    (w : World) : Calls Try.prog 8 #[.int .u64 n0, .int .u64 n1, .int .u64 n2, .int .u64 n3] w fun e w' => e = .returned (.bool true) ∧ Grown w w' := by
  go_enter Try.func8, Try.ntmps8
  go_wp2_with fail
  (with_reducible refine (of_any _ _ _).mono ?_)
  rintro e w0 ⟨rfl, rfl⟩
  go_wp2_with fail
  (with_reducible refine (of_any _ _ _).mono ?_)
  rintro e w0 ⟨rfl, rfl⟩
  go_wp2_with fail
  (with_reducible refine (hm _).mono ?_)
  rintro e w1 ⟨rfl, hd1⟩
  go_wp2_with fail
  (with_reducible refine (hcm _).mono ?_)
  rintro e w0 ⟨rfl, rfl⟩
  go_wp2_with fail
  (with_reducible refine (hca _).mono ?_)
  rintro e w0 ⟨rfl, rfl⟩
  go_wp2_with fail
  (with_reducible refine (hcb _).mono ?_)
  rintro e w0 ⟨rfl, rfl⟩
  go_wp2_with fail
  (with_reducible refine (hmc _).mono ?_)
  rintro e w2 ⟨rfl, hd2⟩
  go_wp2_with fail
  (with_reducible refine (ha _).mono ?_)
  rintro e w3 ⟨rfl, hd3⟩
  go_wp2_with fail
  (with_reducible refine (hcs _).mono ?_)
  rintro e w0 ⟨rfl, rfl⟩
  go_wp2_with fail
  (with_reducible refine (hca _).mono ?_)
  rintro e w0 ⟨rfl, rfl⟩
  go_wp2_with fail
  (with_reducible refine (hcb _).mono ?_)
  rintro e w0 ⟨rfl, rfl⟩
  go_wp2_with fail
  (with_reducible refine (hac _).mono ?_)
  rintro e w4 ⟨rfl, hd4⟩
  go_wp2_with fail
  (with_reducible refine (t1 _).mono ?_)
  rintro e w0 ⟨rfl, rfl⟩
  go_wp2_with fail
  (with_reducible refine (t2 _).mono ?_)
  rintro e w0 ⟨rfl, rfl⟩
  go_wp2_with fail
  (with_reducible refine (awake_any _).mono ?_)
  rintro e w5 ⟨rfl, hd5⟩
  go_wp2
  go_ret
  exact ⟨rfl, ((((hd1.trans hd2).trans hd3).trans hd4).trans hd5).grown⟩

theorem conj_lt (a b : Nat) (h : b < 18446744073709551616) (w : World) : Calls Try.prog 23 #[.complex .f64 a b] w fun e w' => e = .returned (.complex .f64 a (flip b)) ∧ w = w' := by
  have k := conj_any a b w
  rw [cjw_eq h] at k
  exact k

theorem walk (a0 : Int) (a1 : Int) (a2 : Int) (a3 : Int) (w0 : (Lit.int .u64 a0).wf = true) (w1 : (Lit.int .u64 a1).wf = true) (w2 : (Lit.int .u64 a2).wf = true) (w3 : (Lit.int .u64 a3).wf = true) (w : World) :
    Calls Try.prog 8 #[.int .u64 a0, .int .u64 a1, .int .u64 a2, .int .u64 a3] w fun e w' => e = .returned (.bool true) ∧ Grown w w' := by
  obtain ⟨n0, rfl, _⟩ := u64_nat w0
  obtain ⟨n1, rfl, l1⟩ := u64_nat w1
  obtain ⟨n2, rfl, _⟩ := u64_nat w2
  obtain ⟨n3, rfl, l3⟩ := u64_nat w3
  exact core n0 n1 n2 n3 _ _ _ _ _ _ _ _ _ _ _ (mul_any _ _ _ _) (conj_lt _ _ (mulIm_lt _ _ _ _)) (conj_lt _ _ l1) (conj_lt _ _ l3) (mul_any _ _ _ _)
    (add_any _ _ _ _) (conj_lt _ _ (addP_lt _ _)) (add_any _ _ _ _)
    (alike_yes _ _ _ _ (mulRe_flip n0 n1 n2 n3 ▸ AL.refl _) (mulIm_flip _ _ _ _)) (alike_yes _ _ _ _ (AL.refl _) (add_flip _ _)) w

set_option maxRecDepth 100000 in
theorem lifted (os : Os) (started : os.Started) (H : Type) (enc : TypeId × Value → H) :
    ReturnsInHanded {} Try.checked os 8 .any (Rows.cplxConjugatesSpec.pre6 enc Try.prog Try.f8 Rows.cplxConjugatesRow.domain false) (Rows.cplxConjugatesSpec.post enc Try.prog Try.f8 false true false false) := by
  refine returnsInHanded_of_change (C := Try.checked) own started (by kernel_rfl) Try.func8
    (ChangeSpec.witness6 (enc := enc) (C := Try.checked) false ⟨#[], #[.int .u64 0, .int .u64 0, .int .u64 0, .int .u64 0], []⟩ 8 (by kernel_rfl) (by kernel_rfl) (by kernel_rfl) (by kernel_rfl)) ?_
  intro W base args ds gs before hval0 hW hcnd _
  have hval : ∀ (j : Nat) t v, Try.f8.params[j]? = some t → args[j]? = some v → Value.okWide Try.prog W .any base t v := hval0
  have hW' := hW
  obtain ⟨p, q, hA0, hV, rfl, hfz, hnd⟩ := hW
  have hA : DataW.TrodAll enc Try.prog W 0 (fun _ => true) true Try.f8.params.toList args.toList ds p := hA0
  rw [Try.params8] at hA hval
  obtain ⟨v0, vs0, d0, ds0, p0, q0, hargs, rfl, rfl, h0, r0⟩ := trodAll_cons hA
  obtain ⟨v1, vs1, d1, ds1, p1, q1, rfl, rfl, rfl, h1, r1⟩ := trodAll_cons r0
  obtain ⟨v2, vs2, d2, ds2, p2, q2, rfl, rfl, rfl, h2, r2⟩ := trodAll_cons r1
  obtain ⟨v3, vs3, d3, ds3, p3, q3, rfl, rfl, rfl, h3, r3⟩ := trodAll_cons r2
  obtain ⟨rfl, rfl, rfl⟩ := trodAll_nil r3
  obtain rfl : args = #[v0, v1, v2, v3] := by cases args; simp_all
  obtain ⟨rfl, rfl⟩ := trodVars_none hV
  obtain ⟨a0, rfl, rfl, rfl, w0⟩ := open_int Try.underlying22 (hval 0 22 v0 rfl rfl) h0
  obtain ⟨a1, rfl, rfl, rfl, w1⟩ := open_int Try.underlying22 (hval 1 22 v1 rfl rfl) h1
  obtain ⟨a2, rfl, rfl, rfl, w2⟩ := open_int Try.underlying22 (hval 2 22 v2 rfl rfl) h2
  obtain ⟨a3, rfl, rfl, rfl, w3⟩ := open_int Try.underlying22 (hval 3 22 v3 rfl rfl) h3
  clear hA0 hval0
  simp only [List.append_nil] at hW'
  refine (walk a0 a1 a2 a3 w0 w1 w2 w3 W).mono fun e W' ⟨he, hg⟩ => ?_
  subst he
  exact ⟨_, rfl, post_of_same (pa := []) (pv := []) hW' (fun _ _ _ => (trodAll_cons_mk (shut_bool Try.underlying4 _) trodAll_mk0)) (fun sp _ => (trodAll_cons_mk (shut_int Try.underlying22 w0) (trodAll_cons_mk (shut_int Try.underlying22 w1) (trodAll_cons_mk (shut_int Try.underlying22 w2) (trodAll_cons_mk (shut_int Try.underlying22 w3) trodAll_mk0))))) (fun _ _ => rfl) rfl
    (hg.frame _) hg.2.1 (ok_one (by kernel_rfl) rfl (okWide_bool_mk Try.underlying4 _))⟩

theorem over : Rows.cplxConjugatesRow.holds Try.pinned (OpenSpec.ofChange Rows.cplxConjugatesSpec) :=
  OpenClaim.holds_of_wide 8 Try.f8 rfl rfl rfl rfl rfl rfl rfl ⟨rfl, rfl, rfl, rfl, rfl⟩ rfl rfl rfl rfl rfl (by kernel_rfl) Try.func8 (by kernel_rfl)
    (of_decide_eq_true (by kernel_rfl)) (by unfold Func.isWrapper; first | (rw [if_pos (by decide +kernel)]; kernel_rfl) | (rw [if_neg (by decide +kernel)]; exact ⟨rfl, rfl⟩))
    (fun os started H enc _ => lifted os started H enc)

theorem proved : Rows.CplxConjugatesSaid :=
  over
#print axioms proved
end Go.Proofs.Ytmpninbkhaacoaa.cplxConjugates
