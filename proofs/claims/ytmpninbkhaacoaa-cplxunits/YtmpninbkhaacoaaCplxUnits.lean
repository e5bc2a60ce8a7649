/-
  Proved: CplxUnits returns true for every input, and leaves its arguments as they were. No conditions.
-/
import Derived.Test.YtmpninbkhaacoaaRows
import Derived.WalkKit
import Derived.ProofKit
import Derived.OpenShut
import Derived.Test.YtmpninbkhaacoaaPow
import Derived.Test.YtmpninbkhaacoaaWhole
import Derived.ShutString
namespace Go.Proofs.Ytmpninbkhaacoaa.cplxUnits
open Go.ChangeShapes Go.WideShapes Go.ChangeAt Go.RowKit Go.Flo
open Go.ChangeMaps (open_string shut_string)
set_option linter.unusedVariables false

theorem own : ownKnob Try.prog.godebug = none := by kernel_rfl

set_option maxRecDepth 100000 in
set_option maxHeartbeats 1000000 in
theorem core (a0 a1 p q pp qq : Int) (fp fq m1 m2 i1 i2 s1 s2 cq c1 c2 e1 e2 : Nat)
    (hp : a0.tmod 100000 = p) (hq : a1.tmod 100000 = q)
    (bp : -100000 < p) (bp' : p < 100000) (bq : -100000 < q) (bq' : q < 100000)
    (h5 : wrap64 (p * p) = pp) (h11 : wrap64 (q * q) = qq)
    (b1 : -10000000000 < pp) (b1' : pp < 10000000000) (b2 : -10000000000 < qq) (b2' : qq < 10000000000)
    (f1 : floatOfInt .f64 p = fp) (f2 : floatOfInt .f64 q = fq)
    (g1 : floatOfInt .f64 (-q) = e1) (g2 : floatOfInt .f64 (pp + qq) = e2)
    (hm1 : ∀ w, Calls Try.prog 21 #[.complex .f64 fp fq, .complex .f64 4607182418800017408 0] w fun e w' => e = .returned (.complex .f64 m1 m2) ∧ Dr w w')
    (hmi : ∀ w, Calls Try.prog 21 #[.complex .f64 0 4607182418800017408, .complex .f64 fp fq] w fun e w' => e = .returned (.complex .f64 i1 i2) ∧ Dr w w')
    (hadd : ∀ w, Calls Try.prog 19 #[.complex .f64 fp fq, .complex .f64 0 0] w fun e w' => e = .returned (.complex .f64 s1 s2) ∧ Dr w w')
    (hconj : ∀ w, Calls Try.prog 23 #[.complex .f64 fp fq] w fun e w' => e = .returned (.complex .f64 fp cq) ∧ w = w')
    (hmc : ∀ w, Calls Try.prog 21 #[.complex .f64 fp fq, .complex .f64 fp cq] w fun e w' => e = .returned (.complex .f64 c1 c2) ∧ Dr w w')
    (t1 : (FloatKind.f64.format.order m1 fp == some Ordering.eq) = true) (t2 : (FloatKind.f64.format.order m2 fq == some Ordering.eq) = true)
    (t3 : (FloatKind.f64.format.order i1 e1 == some Ordering.eq) = true) (t4 : (FloatKind.f64.format.order i2 fp == some Ordering.eq) = true)
    (t5 : (FloatKind.f64.format.order s1 fp == some Ordering.eq) = true) (t6 : (FloatKind.f64.format.order s2 fq == some Ordering.eq) = true)
    (t7 : (FloatKind.f64.format.order c1 e2 == some Ordering.eq) = true) (t8 : (FloatKind.f64.format.order c2 0 == some Ordering.eq) = true)
    (w : World) : Calls Try.prog 11 #[.int .i64 a0, .int .i64 a1] w fun e w' => e = .returned (.bool true) ∧ Grown w w' := by
  go_enter Try.func11, Try.ntmps11
  go_wp2_with fail
  (with_reducible refine (hm1 _).mono ?_)
  rintro e w1 ⟨rfl, hd1⟩
  go_wp2_with fail
  (with_reducible refine (hmi _).mono ?_)
  rintro e w2 ⟨rfl, hd2⟩
  go_wp2_with fail
  (with_reducible refine (hadd _).mono ?_)
  rintro e w3 ⟨rfl, hd3⟩
  go_wp2_with fail
  (with_reducible refine (hconj _).mono ?_)
  rintro e w4 ⟨rfl, rfl⟩
  go_wp2_with fail
  (with_reducible refine (hmc _).mono ?_)
  rintro e w5 ⟨rfl, hd5⟩
  go_wp2_with fail
  (with_reducible refine (awake_any _).mono ?_)
  rintro e w6 ⟨rfl, hd6⟩
  go_wp2
  go_ret
  exact ⟨rfl, ((((hd1.trans hd2).trans hd3).trans hd5).trans hd6).grown⟩

theorem u1 (p q : Int) : p * 1 - q * 0 = p := by omega
theorem u2 (p q : Int) : p * 0 + q * 1 = q := by omega
theorem u3 (p q : Int) : 0 * p - 1 * q = -q := by omega
theorem u4 (p q : Int) : 0 * q + 1 * p = p := by omega
theorem u7 (p q : Int) : p * p - q * -q = p * p + q * q := by grind
theorem u8 (p q : Int) : p * -q + q * p = 0 := by grind
theorem isInt_one : IsInt 4607182418800017408 1 := ⟨false, by decide +kernel⟩
theorem isInt_nil : IsInt 0 0 := ⟨false, by decide +kernel⟩

theorem ie {x y : Nat} {n m : Int} (hx : IsInt x n) (hy : IsInt y m) (e : n = m) : (FloatKind.f64.format.order x y == some Ordering.eq) = true := by
  subst e
  exact beq_of_eq (isInt_eq hx hy)

theorem walk (a0 : Int) (a1 : Int) (w0 : (Lit.int .i64 a0).wf = true) (w1 : (Lit.int .i64 a1).wf = true) (w : World) :
    Calls Try.prog 11 #[.int .i64 a0, .int .i64 a1] w fun e w' => e = .returned (.bool true) ∧ Grown w w' := by
  obtain ⟨p, hp⟩ : ∃ p, a0.tmod 100000 = p := ⟨_, rfl⟩
  obtain ⟨q, hq⟩ : ∃ p, a1.tmod 100000 = p := ⟨_, rfl⟩
  have b0 : p.natAbs ≤ 99999 := by have := tmod_abs a0 100000 (by decide); rw [← hp]; exact Nat.le_of_lt_succ this
  have b1 : q.natAbs ≤ 99999 := by have := tmod_abs a1 100000 (by decide); rw [← hq]; exact Nat.le_of_lt_succ this
  clear w0 w1
  have l0 : -100000 < p ∧ p < 100000 := by omega
  have l1 : -100000 < q ∧ q < 100000 := by omega
  have c5 := prod_le b0 b0
  have c11 := prod_le b1 b1
  have sa : SC (floatOfInt .f64 p, floatOfInt .f64 q) p q 99999 := SC.ofInt b0 b1 (by decide)
  have s1 : SC (4607182418800017408, 0) 1 0 1 := ⟨isInt_one, isInt_nil, by decide, by decide⟩
  have si : SC (0, 4607182418800017408) 0 1 1 := ⟨isInt_nil, isInt_one, by decide, by decide⟩
  have s0 : SC (0, 0) 0 0 0 := ⟨isInt_nil, isInt_nil, by decide, by decide⟩
  have sc : SC (floatOfInt .f64 p, cjw (floatOfInt .f64 q)) p (-q) 99999 := ⟨sa.1, (cjw_eq (floatOfInt_lt q)) ▸ isInt_flip sa.2.1, b0, by rw [Int.natAbs_neg]; exact b1⟩
  have sm := sa.mul s1 (by decide) (by decide) (by decide)
  have smi := si.mul sa (by decide) (by decide) (by decide)
  have sad := sa.add s0 (by decide)
  have smc := sa.mul sc (by decide) (by decide) (by decide)
  have en := isInt_ofInt (-q) (by rw [Int.natAbs_neg]; exact Nat.lt_of_le_of_lt b1 (by decide))
  have ec := isInt_ofInt (p * p + q * q) (Nat.lt_of_le_of_lt (add_le c5 c11) (by decide))
  exact core a0 a1 p q (p * p) (q * q) _ _ _ _ _ _ _ _ _ _ _ _ _ hp hq l0.1 l0.2 l1.1 l1.2
    (ws c5 (by decide)) (ws c11 (by decide)) (lo c5 (by decide)) (hi c5 (by decide)) (lo c11 (by decide)) (hi c11 (by decide))
    rfl rfl rfl rfl (mul_any _ _ _ _) (mul_any _ _ _ _) (add_any _ _ _ _) (conj_any _ _) (mul_any _ _ _ _)
    (ie sm.1 sa.1 (u1 p q)) (ie sm.2.1 sa.2.1 (u2 p q))
    (ie smi.1 en (u3 p q)) (ie smi.2.1 sa.1 (u4 p q))
    (ie sad.1 sa.1 (Int.add_zero p)) (ie sad.2.1 sa.2.1 (Int.add_zero q))
    (ie smc.1 ec (u7 p q)) (ie smc.2.1 isInt_nil (u8 p q)) w

set_option maxRecDepth 100000 in
theorem lifted (os : Os) (started : os.Started) (H : Type) (enc : TypeId × Value → H) :
    ReturnsInHanded {} Try.checked os 11 .any (Rows.cplxUnitsSpec.pre6 enc Try.prog Try.f11 Rows.cplxUnitsRow.domain false) (Rows.cplxUnitsSpec.post enc Try.prog Try.f11 false true false false) := by
  refine returnsInHanded_of_change (C := Try.checked) own started (by kernel_rfl) Try.func11
    (ChangeSpec.witness6 (enc := enc) (C := Try.checked) false ⟨#[], #[.int .i64 0, .int .i64 0], []⟩ 8 (by kernel_rfl) (by kernel_rfl) (by kernel_rfl) (by kernel_rfl)) ?_
  intro W base args ds gs before hval0 hW hcnd _
  have hval : ∀ (j : Nat) t v, Try.f11.params[j]? = some t → args[j]? = some v → Value.okWide Try.prog W .any base t v := hval0
  have hW' := hW
  obtain ⟨p, q, hA0, hV, rfl, hfz, hnd⟩ := hW
  have hA : DataW.TrodAll enc Try.prog W 0 (fun _ => true) true Try.f11.params.toList args.toList ds p := hA0
  rw [Try.params11] at hA hval
  obtain ⟨v0, vs0, d0, ds0, p0, q0, hargs, rfl, rfl, h0, r0⟩ := trodAll_cons hA
  obtain ⟨v1, vs1, d1, ds1, p1, q1, rfl, rfl, rfl, h1, r1⟩ := trodAll_cons r0
  obtain ⟨rfl, rfl, rfl⟩ := trodAll_nil r1
  obtain rfl : args = #[v0, v1] := by cases args; simp_all
  obtain ⟨rfl, rfl⟩ := trodVars_none hV
  obtain ⟨a0, rfl, rfl, rfl, w0⟩ := open_int Try.underlying3 (hval 0 3 v0 rfl rfl) h0
  obtain ⟨a1, rfl, rfl, rfl, w1⟩ := open_int Try.underlying3 (hval 1 3 v1 rfl rfl) h1
  clear hA0 hval0
  simp only [List.append_nil] at hW'
  refine (walk a0 a1 w0 w1 W).mono fun e W' ⟨he, hg⟩ => ?_
  subst he
  exact ⟨_, rfl, post_of_same (pa := []) (pv := []) hW' (fun _ _ _ => (trodAll_cons_mk (shut_bool Try.underlying4 _) trodAll_mk0)) (fun sp _ => (trodAll_cons_mk (shut_int Try.underlying3 w0) (trodAll_cons_mk (shut_int Try.underlying3 w1) trodAll_mk0))) (fun _ _ => rfl) rfl
    (hg.frame _) hg.2.1 (ok_one (by kernel_rfl) rfl (okWide_bool_mk Try.underlying4 _))⟩

theorem over : Rows.cplxUnitsRow.holds Try.pinned (OpenSpec.ofChange Rows.cplxUnitsSpec) :=
  OpenClaim.holds_of_wide 11 Try.f11 rfl rfl rfl rfl rfl rfl rfl ⟨rfl, rfl, rfl, rfl, rfl⟩ rfl rfl rfl rfl rfl (by kernel_rfl) Try.func11 (by kernel_rfl)
    (of_decide_eq_true (by kernel_rfl)) (by unfold Func.isWrapper; first | (rw [if_pos (by decide +kernel)]; kernel_rfl) | (rw [if_neg (by decide +kernel)]; exact ⟨rfl, rfl⟩))
    (fun os started H enc _ => lifted os started H enc)

theorem proved : Rows.CplxUnitsSaid :=
  over
#print axioms proved
end Go.Proofs.Ytmpninbkhaacoaa.cplxUnits
