/-
  Proved: CplxRings returns true for every input, and leaves its arguments as they were. No conditions.
-/
import Derived.Test.YtmpninbkhaacoaaRows
import Derived.WalkKit
import Derived.ProofKit
import Derived.OpenShut
import Derived.Test.YtmpninbkhaacoaaPow
import Derived.Test.YtmpninbkhaacoaaWhole
import Derived.ShutString
namespace Go.Proofs.Ytmpninbkhaacoaa.cplxRings
open Go.ChangeShapes Go.WideShapes Go.ChangeAt Go.RowKit Go.Flo
open Go.ChangeMaps (open_string shut_string)
set_option linter.unusedVariables false

theorem own : ownKnob Try.prog.godebug = none := by kernel_rfl

theorem n_any (x y : Int) (w : World) : Calls Try.prog 30 #[.int .i64 x, .int .i64 y] w fun e w' => e = .returned (.complex .f64 (floatOfInt .f64 (x.tmod 1000)) (floatOfInt .f64 (y.tmod 1000))) ∧ w = w' := by
  go_enter Try.func30, Try.ntmps30
  go_wp2
  go_ret
  exact ⟨rfl, rfl⟩

set_option maxRecDepth 100000 in
set_option maxHeartbeats 1000000 in
theorem core (a0 a1 a2 a3 a4 a5 : Int) (p q r s t u : Nat) (x1 x2 x3 x4 x5 x6 x7 x8 y1 y2 y3 y4 y5 y6 y7 y8 z1 z2 z3 z4 z5 z6 : Nat)
    (hn1 : ∀ w, Calls Try.prog 30 #[.int .i64 a0, .int .i64 a1] w fun e w' => e = .returned (.complex .f64 p q) ∧ w = w')
    (hn2 : ∀ w, Calls Try.prog 30 #[.int .i64 a2, .int .i64 a3] w fun e w' => e = .returned (.complex .f64 r s) ∧ w = w')
    (hn3 : ∀ w, Calls Try.prog 30 #[.int .i64 a4, .int .i64 a5] w fun e w' => e = .returned (.complex .f64 t u) ∧ w = w')
    (hab : ∀ w, Calls Try.prog 19 #[.complex .f64 p q, .complex .f64 r s] w fun e w' => e = .returned (.complex .f64 x1 x2) ∧ Dr w w')
    (habc : ∀ w, Calls Try.prog 19 #[.complex .f64 x1 x2, .complex .f64 t u] w fun e w' => e = .returned (.complex .f64 x3 x4) ∧ Dr w w')
    (hbc : ∀ w, Calls Try.prog 19 #[.complex .f64 r s, .complex .f64 t u] w fun e w' => e = .returned (.complex .f64 x5 x6) ∧ Dr w w')
    (habc' : ∀ w, Calls Try.prog 19 #[.complex .f64 p q, .complex .f64 x5 x6] w fun e w' => e = .returned (.complex .f64 x7 x8) ∧ Dr w w')
    (mab : ∀ w, Calls Try.prog 21 #[.complex .f64 p q, .complex .f64 r s] w fun e w' => e = .returned (.complex .f64 y1 y2) ∧ Dr w w')
    (mabc : ∀ w, Calls Try.prog 21 #[.complex .f64 y1 y2, .complex .f64 t u] w fun e w' => e = .returned (.complex .f64 y3 y4) ∧ Dr w w')
    (mbc : ∀ w, Calls Try.prog 21 #[.complex .f64 r s, .complex .f64 t u] w fun e w' => e = .returned (.complex .f64 y5 y6) ∧ Dr w w')
    (mabc' : ∀ w, Calls Try.prog 21 #[.complex .f64 p q, .complex .f64 y5 y6] w fun e w' => e = .returned (.complex .f64 y7 y8) ∧ Dr w w')
    (ms : ∀ w, Calls Try.prog 21 #[.complex .f64 p q, .complex .f64 x5 x6] w fun e w' => e = .returned (.complex .f64 z1 z2) ∧ Dr w w')
    (mac : ∀ w, Calls Try.prog 21 #[.complex .f64 p q, .complex .f64 t u] w fun e w' => e = .returned (.complex .f64 z3 z4) ∧ Dr w w')
    (sm : ∀ w, Calls Try.prog 19 #[.complex .f64 y1 y2, .complex .f64 z3 z4] w fun e w' => e = .returned (.complex .f64 z5 z6) ∧ Dr w w')
    (t1 : (FloatKind.f64.format.order x3 x7 == some Ordering.eq) = true) (t2 : (FloatKind.f64.format.order x4 x8 == some Ordering.eq) = true)
    (t3 : (FloatKind.f64.format.order y3 y7 == some Ordering.eq) = true) (t4 : (FloatKind.f64.format.order y4 y8 == some Ordering.eq) = true)
    (t5 : (FloatKind.f64.format.order z1 z5 == some Ordering.eq) = true) (t6 : (FloatKind.f64.format.order z2 z6 == some Ordering.eq) = true)
    (w : World) : Calls Try.prog 12 #[.int .i64 a0, .int .i64 a1, .int .i64 a2, .int .i64 a3, .int .i64 a4, .int .i64 a5] w fun e w' => e = .returned (.bool true) ∧ Grown w w' := by
  go_enter Try.func12, Try.ntmps12
  go_wp2_with fail
  (with_reducible refine (hn1 _).mono ?_)
  rintro e w0 ⟨rfl, rfl⟩
  go_wp2_with fail
  (with_reducible refine (hn2 _).mono ?_)
  rintro e w0 ⟨rfl, rfl⟩
  go_wp2_with fail
  (with_reducible refine (hn3 _).mono ?_)
  rintro e w0 ⟨rfl, rfl⟩
  clear hn1 hn2 hn3
  go_wp2_with fail
  (with_reducible refine (hab _).mono ?_)
  rintro e w1 ⟨rfl, hd1⟩
  go_wp2_with fail
  (with_reducible refine (habc _).mono ?_)
  rintro e w2 ⟨rfl, hd2⟩
  go_wp2_with fail
  (with_reducible refine (hbc _).mono ?_)
  rintro e w3 ⟨rfl, hd3⟩
  go_wp2_with fail
  (with_reducible refine (habc' _).mono ?_)
  rintro e w4 ⟨rfl, hd4⟩
  go_wp2_with fail
  (with_reducible refine (mab _).mono ?_)
  rintro e w5 ⟨rfl, hd5⟩
  go_wp2_with fail
  (with_reducible refine (mabc _).mono ?_)
  rintro e w6 ⟨rfl, hd6⟩
  go_wp2_with fail
  (with_reducible refine (mbc _).mono ?_)
  rintro e w7 ⟨rfl, hd7⟩
  go_wp2_with fail
  (with_reducible refine (mabc' _).mono ?_)
  rintro e w8 ⟨rfl, hd8⟩
  go_wp2_with fail
  (with_reducible refine (hbc _).mono ?_)
  rintro e w9 ⟨rfl, hd9⟩
  go_wp2_with fail
  (with_reducible refine (ms _).mono ?_)
  rintro e w10 ⟨rfl, hd10⟩
  go_wp2_with fail
  (with_reducible refine (mab _).mono ?_)
  rintro e w11 ⟨rfl, hd11⟩
  go_wp2_with fail
  (with_reducible refine (mac _).mono ?_)
  rintro e w12 ⟨rfl, hd12⟩
  go_wp2_with fail
  (with_reducible refine (sm _).mono ?_)
  rintro e w13 ⟨rfl, hd13⟩
  go_wp2_with fail
  (with_reducible refine (awake_any _).mono ?_)
  rintro e w14 ⟨rfl, hd14⟩
  go_wp2
  go_ret
  exact ⟨rfl, (((((((((((((hd1.trans hd2).trans hd3).trans hd4).trans hd5).trans hd6).trans hd7).trans hd8).trans hd9).trans hd10).trans hd11).trans hd12).trans hd13).trans hd14).grown⟩

theorem r1 (p q r s t u : Int) : (p * r - q * s) * t - (p * s + q * r) * u = p * (r * t - s * u) - q * (r * u + s * t) := by grind
theorem r2 (p q r s t u : Int) : (p * r - q * s) * u + (p * s + q * r) * t = p * (r * u + s * t) + q * (r * t - s * u) := by grind
theorem r3 (p q r s t u : Int) : p * (r + t) - q * (s + u) = (p * r - q * s) + (p * t - q * u) := by grind
theorem r4 (p q r s t u : Int) : p * (s + u) + q * (r + t) = (p * s + q * r) + (p * u + q * t) := by grind

theorem walk (a0 : Int) (a1 : Int) (a2 : Int) (a3 : Int) (a4 : Int) (a5 : Int) (w0 : (Lit.int .i64 a0).wf = true) (w1 : (Lit.int .i64 a1).wf = true) (w2 : (Lit.int .i64 a2).wf = true) (w3 : (Lit.int .i64 a3).wf = true) (w4 : (Lit.int .i64 a4).wf = true) (w5 : (Lit.int .i64 a5).wf = true) (w : World) :
    Calls Try.prog 12 #[.int .i64 a0, .int .i64 a1, .int .i64 a2, .int .i64 a3, .int .i64 a4, .int .i64 a5] w fun e w' => e = .returned (.bool true) ∧ Grown w w' := by
  have bb : ∀ a : Int, (a.tmod 1000).natAbs ≤ 999 := fun a => Nat.le_of_lt_succ (tmod_abs a 1000 (by decide))
  have sa : SC (floatOfInt .f64 (a0.tmod 1000), floatOfInt .f64 (a1.tmod 1000)) (a0.tmod 1000) (a1.tmod 1000) 999 := SC.ofInt (bb a0) (bb a1) (by decide)
  have sb : SC (floatOfInt .f64 (a2.tmod 1000), floatOfInt .f64 (a3.tmod 1000)) (a2.tmod 1000) (a3.tmod 1000) 999 := SC.ofInt (bb a2) (bb a3) (by decide)
  have sc : SC (floatOfInt .f64 (a4.tmod 1000), floatOfInt .f64 (a5.tmod 1000)) (a4.tmod 1000) (a5.tmod 1000) 999 := SC.ofInt (bb a4) (bb a5) (by decide)
  have e1 := (sa.add sb (by decide)).add sc (by decide)
  have e2 := sa.add (sb.add sc (by decide)) (by decide)
  have m1 := (sa.mul sb (by decide) (by decide) (by decide)).mul sc (by decide) (by decide) (by decide)
  have m2 := sa.mul (sb.mul sc (by decide) (by decide) (by decide)) (by decide) (by decide) (by decide)
  have d1 := sa.mul (sb.add sc (by decide)) (by decide) (by decide) (by decide)
  have d2 := (sa.mul sb (by decide) (by decide) (by decide)).add (sa.mul sc (by decide) (by decide) (by decide)) (by decide)
  have T1 := e1.re e2 (Int.add_assoc _ _ _)
  have T2 := e1.im e2 (Int.add_assoc _ _ _)
  have T3 := m1.re m2 (r1 _ _ _ _ _ _)
  have T4 := m1.im m2 (r2 _ _ _ _ _ _)
  have T5 := d1.re d2 (r3 _ _ _ _ _ _)
  have T6 := d1.im d2 (r4 _ _ _ _ _ _)
  exact core a0 a1 a2 a3 a4 a5 _ _ _ _ _ _ _ _ _ _ _ _ _ _ _ _ _ _ _ _ _ _ _ _ _ _ _ _ (n_any a0 a1) (n_any a2 a3) (n_any a4 a5)
    (add_any _ _ _ _) (add_any _ _ _ _) (add_any _ _ _ _) (add_any _ _ _ _) (mul_any _ _ _ _) (mul_any _ _ _ _) (mul_any _ _ _ _) (mul_any _ _ _ _) (mul_any _ _ _ _) (mul_any _ _ _ _) (add_any _ _ _ _)
    T1 T2 T3 T4 T5 T6 w

set_option maxRecDepth 100000 in
theorem lifted (os : Os) (started : os.Started) (H : Type) (enc : TypeId × Value → H) :
    ReturnsInHanded {} Try.checked os 12 .any (Rows.cplxRingsSpec.pre6 enc Try.prog Try.f12 Rows.cplxRingsRow.domain false) (Rows.cplxRingsSpec.post enc Try.prog Try.f12 false true false false) := by
  refine returnsInHanded_of_change (C := Try.checked) own started (by kernel_rfl) Try.func12
    (ChangeSpec.witness6 (enc := enc) (C := Try.checked) false ⟨#[], #[.int .i64 0, .int .i64 0, .int .i64 0, .int .i64 0, .int .i64 0, .int .i64 0], []⟩ 8 (by kernel_rfl) (by kernel_rfl) (by kernel_rfl) (by kernel_rfl)) ?_
  intro W base args ds gs before hval0 hW hcnd _
  have hval : ∀ (j : Nat) t v, Try.f12.params[j]? = some t → args[j]? = some v → Value.okWide Try.prog W .any base t v := hval0
  have hW' := hW
  obtain ⟨p, q, hA0, hV, rfl, hfz, hnd⟩ := hW
  have hA : DataW.TrodAll enc Try.prog W 0 (fun _ => true) true Try.f12.params.toList args.toList ds p := hA0
  rw [Try.params12] at hA hval
  obtain ⟨v0, vs0, d0, ds0, p0, q0, hargs, rfl, rfl, h0, r0⟩ := trodAll_cons hA
  obtain ⟨v1, vs1, d1, ds1, p1, q1, rfl, rfl, rfl, h1, r1⟩ := trodAll_cons r0
  obtain ⟨v2, vs2, d2, ds2, p2, q2, rfl, rfl, rfl, h2, r2⟩ := trodAll_cons r1
  obtain ⟨v3, vs3, d3, ds3, p3, q3, rfl, rfl, rfl, h3, r3⟩ := trodAll_cons r2
  obtain ⟨v4, vs4, d4, ds4, p4, q4, rfl, rfl, rfl, h4, r4⟩ := trodAll_cons r3
  obtain ⟨v5, vs5, d5, ds5, p5, q5, rfl, rfl, rfl, h5, r5⟩ := trodAll_cons r4
  obtain ⟨rfl, rfl, rfl⟩ := trodAll_nil r5
  obtain rfl : args = #[v0, v1, v2, v3, v4, v5] := by cases args; simp_all
  obtain ⟨rfl, rfl⟩ := trodVars_none hV
  obtain ⟨a0, rfl, rfl, rfl, w0⟩ := open_int Try.underlying3 (hval 0 3 v0 rfl rfl) h0
  obtain ⟨a1, rfl, rfl, rfl, w1⟩ := open_int Try.underlying3 (hval 1 3 v1 rfl rfl) h1
  obtain ⟨a2, rfl, rfl, rfl, w2⟩ := open_int Try.underlying3 (hval 2 3 v2 rfl rfl) h2
  obtain ⟨a3, rfl, rfl, rfl, w3⟩ := open_int Try.underlying3 (hval 3 3 v3 rfl rfl) h3
  obtain ⟨a4, rfl, rfl, rfl, w4⟩ := open_int Try.underlying3 (hval 4 3 v4 rfl rfl) h4
  obtain ⟨a5, rfl, rfl, rfl, w5⟩ := open_int Try.underlying3 (hval 5 3 v5 rfl rfl) h5
  clear hA0 hval0
  simp only [List.append_nil] at hW'
  refine (walk a0 a1 a2 a3 a4 a5 w0 w1 w2 w3 w4 w5 W).mono fun e W' ⟨he, hg⟩ => ?_
  subst he
  exact ⟨_, rfl, post_of_same (pa := []) (pv := []) hW' (fun _ _ _ => (trodAll_cons_mk (shut_bool Try.underlying4 _) trodAll_mk0)) (fun sp _ => (trodAll_cons_mk (shut_int Try.underlying3 w0) (trodAll_cons_mk (shut_int Try.underlying3 w1) (trodAll_cons_mk (shut_int Try.underlying3 w2) (trodAll_cons_mk (shut_int Try.underlying3 w3) (trodAll_cons_mk (shut_int Try.underlying3 w4) (trodAll_cons_mk (shut_int Try.underlying3 w5) trodAll_mk0))))))) (fun _ _ => rfl) rfl
    (hg.frame _) hg.2.1 (ok_one (by kernel_rfl) rfl (okWide_bool_mk Try.underlying4 _))⟩

theorem over : Rows.cplxRingsRow.holds Try.pinned (OpenSpec.ofChange Rows.cplxRingsSpec) :=
  OpenClaim.holds_of_wide 12 Try.f12 rfl rfl rfl rfl rfl rfl rfl ⟨rfl, rfl, rfl, rfl, rfl⟩ rfl rfl rfl rfl rfl (by kernel_rfl) Try.func12 (by kernel_rfl)
    (of_decide_eq_true (by kernel_rfl)) (by unfold Func.isWrapper; first | (rw [if_pos (by decide +kernel)]; kernel_rfl) | (rw [if_neg (by decide +kernel)]; exact ⟨rfl, rfl⟩))
    (fun os started H enc _ => lifted os started H enc)

theorem proved : Rows.CplxRingsSaid :=
  over
#print axioms proved
end Go.Proofs.Ytmpninbkhaacoaa.cplxRings
