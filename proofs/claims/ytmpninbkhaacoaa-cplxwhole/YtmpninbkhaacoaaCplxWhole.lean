/-
  Proved: CplxWhole returns true for every input, and leaves its arguments as they were. No conditions.
-/
import Derived.Test.YtmpninbkhaacoaaRows
import Derived.WalkKit
import Derived.ProofKit
import Derived.OpenShut
import Derived.Test.YtmpninbkhaacoaaPow
import Derived.Test.YtmpninbkhaacoaaWhole
import Derived.ShutString
namespace Go.Proofs.Ytmpninbkhaacoaa.cplxWhole
open Go.ChangeShapes Go.WideShapes Go.ChangeAt Go.RowKit Go.Flo
open Go.ChangeMaps (open_string shut_string)
set_option linter.unusedVariables false

theorem own : ownKnob Try.prog.godebug = none := by kernel_rfl

theorem k1 (p q : Int) : (p * p - q * q) * p - (p * q + q * p) * q = p * p * p - 3 * p * q * q := by grind
theorem k2 (p q : Int) : (p * p - q * q) * q + (p * q + q * p) * p = 3 * p * p * q - q * q * q := by grind

set_option maxRecDepth 100000 in
set_option maxHeartbeats 1000000 in
theorem core (a0 a1 a2 a3 p q r s pr qs ps qr pp ppp x1 x2 y1 y2 qq qqq : Int) (fp fq fr fs ax ay mx my cx cy e1 e2 e3 e4 e5 e6 : Nat)
    (hp : a0.tmod 1000 = p) (hq : a1.tmod 1000 = q) (hr : a2.tmod 1000 = r) (hs : a3.tmod 1000 = s)
    (bp : -1000 < p) (bp' : p < 1000) (bq : -1000 < q) (bq' : q < 1000) (br : -1000 < r) (br' : r < 1000) (bs : -1000 < s) (bs' : s < 1000)
    (h1 : wrap64 (p * r) = pr) (h2 : wrap64 (q * s) = qs) (h3 : wrap64 (p * s) = ps) (h4 : wrap64 (q * r) = qr)
    (h5 : wrap64 (p * p) = pp) (h6 : wrap64 (pp * p) = ppp) (h7 : wrap64 (3 * p * q) = x1) (h8 : wrap64 (x1 * q) = x2)
    (h9 : wrap64 (3 * p * p) = y1) (h10 : wrap64 (y1 * q) = y2) (h11 : wrap64 (q * q) = qq) (h12 : wrap64 (qq * q) = qqq)
    (b1 : -10000000000 < pr) (b1' : pr < 10000000000) (b2 : -10000000000 < qs) (b2' : qs < 10000000000)
    (b3 : -10000000000 < ps) (b3' : ps < 10000000000) (b4 : -10000000000 < qr) (b4' : qr < 10000000000)
    (b5 : -10000000000 < ppp) (b5' : ppp < 10000000000) (b6 : -10000000000 < x2) (b6' : x2 < 10000000000)
    (b7 : -10000000000 < y2) (b7' : y2 < 10000000000) (b8 : -10000000000 < qqq) (b8' : qqq < 10000000000)
    (f1 : floatOfInt .f64 p = fp) (f2 : floatOfInt .f64 q = fq) (f3 : floatOfInt .f64 r = fr) (f4 : floatOfInt .f64 s = fs)
    (g1 : floatOfInt .f64 (p + r) = e1) (g2 : floatOfInt .f64 (q + s) = e2) (g3 : floatOfInt .f64 (pr - qs) = e3) (g4 : floatOfInt .f64 (ps + qr) = e4)
    (g5 : floatOfInt .f64 (ppp - x2) = e5) (g6 : floatOfInt .f64 (y2 - qqq) = e6)
    (hmul : ∀ w, Calls Try.prog 21 #[.complex .f64 fp fq, .complex .f64 fr fs] w fun e w' => e = .returned (.complex .f64 mx my) ∧ Dr w w')
    (hadd : ∀ w, Calls Try.prog 19 #[.complex .f64 fp fq, .complex .f64 fr fs] w fun e w' => e = .returned (.complex .f64 ax ay) ∧ Dr w w')
    (hpow : ∀ w, Calls Try.prog 25 #[.complex .f64 fp fq, .int .i64 3] w fun e w' => e = .returned (.complex .f64 cx cy) ∧ Dr w w')
    (t1 : (FloatKind.f64.format.order ax e1 == some Ordering.eq) = true) (t2 : (FloatKind.f64.format.order ay e2 == some Ordering.eq) = true)
    (t3 : (FloatKind.f64.format.order mx e3 == some Ordering.eq) = true) (t4 : (FloatKind.f64.format.order my e4 == some Ordering.eq) = true)
    (t5 : (FloatKind.f64.format.order cx e5 == some Ordering.eq) = true) (t6 : (FloatKind.f64.format.order cy e6 == some Ordering.eq) = true)
    (w : World) : Calls Try.prog 7 #[.int .i64 a0, .int .i64 a1, .int .i64 a2, .int .i64 a3] w fun e w' => e = .returned (.bool true) ∧ Grown w w' := by
  have t7 : (FloatKind.f64.format.order 4607182418800017408 4607182418800017408 == some Ordering.eq) = true := by decide +kernel
  have t8 : (FloatKind.f64.format.order 0 0 == some Ordering.eq) = true := by decide +kernel
  go_enter Try.func7, Try.ntmps7
  go_wp2_with fail
  (with_reducible refine (hmul _).mono ?_)
  rintro e w1 ⟨rfl, hd1⟩
  go_wp2_with fail
  (with_reducible refine (hadd _).mono ?_)
  rintro e w2 ⟨rfl, hd2⟩
  go_wp2_with fail
  (with_reducible refine (hpow _).mono ?_)
  rintro e w3 ⟨rfl, hd3⟩
  go_wp2_with fail
  (with_reducible refine (power_low _ _ _ (by decide) _).mono ?_)
  rintro e w4 ⟨rfl, rfl⟩
  go_wp2_with fail
  (with_reducible refine (awake_any _).mono ?_)
  rintro e w5 ⟨rfl, hd5⟩
  go_wp2
  go_ret
  exact ⟨rfl, (((hd1.trans hd2).trans hd3).trans hd5).grown⟩

theorem walk (a0 : Int) (a1 : Int) (a2 : Int) (a3 : Int) (w0 : (Lit.int .i64 a0).wf = true) (w1 : (Lit.int .i64 a1).wf = true) (w2 : (Lit.int .i64 a2).wf = true) (w3 : (Lit.int .i64 a3).wf = true) (w : World) :
    Calls Try.prog 7 #[.int .i64 a0, .int .i64 a1, .int .i64 a2, .int .i64 a3] w fun e w' => e = .returned (.bool true) ∧ Grown w w' := by
  obtain ⟨p, hp⟩ : ∃ p, a0.tmod 1000 = p := ⟨_, rfl⟩
  obtain ⟨q, hq⟩ : ∃ p, a1.tmod 1000 = p := ⟨_, rfl⟩
  obtain ⟨r, hr⟩ : ∃ p, a2.tmod 1000 = p := ⟨_, rfl⟩
  obtain ⟨s, hs⟩ : ∃ p, a3.tmod 1000 = p := ⟨_, rfl⟩
  have b0 : p.natAbs ≤ 999 := by have := tmod_abs a0 1000 (by decide); rw [← hp]; exact Nat.le_of_lt_succ this
  have b1 : q.natAbs ≤ 999 := by have := tmod_abs a1 1000 (by decide); rw [← hq]; exact Nat.le_of_lt_succ this
  have b2 : r.natAbs ≤ 999 := by have := tmod_abs a2 1000 (by decide); rw [← hr]; exact Nat.le_of_lt_succ this
  have b3 : s.natAbs ≤ 999 := by have := tmod_abs a3 1000 (by decide); rw [← hs]; exact Nat.le_of_lt_succ this
  clear w0 w1 w2 w3
  have c1 := prod_le b0 b2
  have c2 := prod_le b1 b3
  have c3 := prod_le b0 b3
  have c4 := prod_le b1 b2
  have c5 := prod_le b0 b0
  have c6 := prod_le c5 b0
  have c7 := prod_le (tri_le b0) b1
  have c8 := prod_le c7 b1
  have c9 := prod_le (tri_le b0) b0
  have c10 := prod_le c9 b1
  have c11 := prod_le b1 b1
  have c12 := prod_le c11 b1
  have sa : SC (floatOfInt .f64 p, floatOfInt .f64 q) p q 999 := SC.ofInt b0 b1 (by decide)
  have sb : SC (floatOfInt .f64 r, floatOfInt .f64 s) r s 999 := SC.ofInt b2 b3 (by decide)
  have sadd := sa.add sb (by decide)
  have smul := sa.mul sb (by decide) (by decide) (by decide)
  have spow := (sa.mul sa (by decide) (by decide) (by decide)).mul sa (by decide) (by decide) (by decide)
  have ea := SC.ofInt (add_le b0 b2) (add_le b1 b3) (by decide)
  have em := SC.ofInt (sub_le c1 c2) (add_le c3 c4) (by decide)
  have ep5 := isInt_ofInt (p * p * p - 3 * p * q * q) (Nat.lt_of_le_of_lt (sub_le c6 c8) (by decide))
  have ep6 := isInt_ofInt (3 * p * p * q - q * q * q) (Nat.lt_of_le_of_lt (sub_le c10 c12) (by decide))
  have hpow := power_pos (floatOfInt .f64 p) (floatOfInt .f64 q) 3 3 (by decide) (by decide)
  rw [powC_three] at hpow
  have t5 := isInt_eq ((k1 p q) ▸ spow.1) ep5
  have t6 := isInt_eq ((k2 p q) ▸ spow.2.1) ep6
  exact core a0 a1 a2 a3 p q r s (p * r) (q * s) (p * s) (q * r) (p * p) (p * p * p) (3 * p * q) (3 * p * q * q) (3 * p * p) (3 * p * p * q) (q * q) (q * q * q)
    _ _ _ _ _ _ _ _ _ _ _ _ _ _ _ _ hp hq hr hs (lo3 b0) (hi3 b0) (lo3 b1) (hi3 b1) (lo3 b2) (hi3 b2) (lo3 b3) (hi3 b3)
    (ws c1 (by decide)) (ws c2 (by decide)) (ws c3 (by decide)) (ws c4 (by decide)) (ws c5 (by decide)) (ws c6 (by decide)) (ws c7 (by decide)) (ws c8 (by decide)) (ws c9 (by decide)) (ws c10 (by decide)) (ws c11 (by decide)) (ws c12 (by decide))
    (lo c1 (by decide)) (hi c1 (by decide)) (lo c2 (by decide)) (hi c2 (by decide)) (lo c3 (by decide)) (hi c3 (by decide)) (lo c4 (by decide)) (hi c4 (by decide)) (lo c6 (by decide)) (hi c6 (by decide)) (lo c8 (by decide)) (hi c8 (by decide)) (lo c10 (by decide)) (hi c10 (by decide)) (lo c12 (by decide)) (hi c12 (by decide))
    rfl rfl rfl rfl rfl rfl rfl rfl rfl rfl
    (mul_any _ _ _ _) (add_any _ _ _ _) hpow (sadd.re ea rfl) (sadd.im ea rfl) (smul.re em rfl) (smul.im em rfl) (beq_of_eq t5) (beq_of_eq t6) w

set_option maxRecDepth 100000 in
theorem lifted (os : Os) (started : os.Started) (H : Type) (enc : TypeId × Value → H) :
    ReturnsInHanded {} Try.checked os 7 .any (Rows.cplxWholeSpec.pre6 enc Try.prog Try.f7 Rows.cplxWholeRow.domain false) (Rows.cplxWholeSpec.post enc Try.prog Try.f7 false true false false) := by
  refine returnsInHanded_of_change (C := Try.checked) own started (by kernel_rfl) Try.func7
    (ChangeSpec.witness6 (enc := enc) (C := Try.checked) false ⟨#[], #[.int .i64 0, .int .i64 0, .int .i64 0, .int .i64 0], []⟩ 8 (by kernel_rfl) (by kernel_rfl) (by kernel_rfl) (by kernel_rfl)) ?_
  intro W base args ds gs before hval0 hW hcnd _
  have hval : ∀ (j : Nat) t v, Try.f7.params[j]? = some t → args[j]? = some v → Value.okWide Try.prog W .any base t v := hval0
  have hW' := hW
  obtain ⟨p, q, hA0, hV, rfl, hfz, hnd⟩ := hW
  have hA : DataW.TrodAll enc Try.prog W 0 (fun _ => true) true Try.f7.params.toList args.toList ds p := hA0
  rw [Try.params7] at hA hval
  obtain ⟨v0, vs0, d0, ds0, p0, q0, hargs, rfl, rfl, h0, r0⟩ := trodAll_cons hA
  obtain ⟨v1, vs1, d1, ds1, p1, q1, rfl, rfl, rfl, h1, r1⟩ := trodAll_cons r0
  obtain ⟨v2, vs2, d2, ds2, p2, q2, rfl, rfl, rfl, h2, r2⟩ := trodAll_cons r1
  obtain ⟨v3, vs3, d3, ds3, p3, q3, rfl, rfl, rfl, h3, r3⟩ := trodAll_cons r2
  obtain ⟨rfl, rfl, rfl⟩ := trodAll_nil r3
  obtain rfl : args = #[v0, v1, v2, v3] := by cases args; simp_all
  obtain ⟨rfl, rfl⟩ := trodVars_none hV
  obtain ⟨a0, rfl, rfl, rfl, w0⟩ := open_int Try.underlying3 (hval 0 3 v0 rfl rfl) h0
  obtain ⟨a1, rfl, rfl, rfl, w1⟩ := open_int Try.underlying3 (hval 1 3 v1 rfl rfl) h1
  obtain ⟨a2, rfl, rfl, rfl, w2⟩ := open_int Try.underlying3 (hval 2 3 v2 rfl rfl) h2
  obtain ⟨a3, rfl, rfl, rfl, w3⟩ := open_int Try.underlying3 (hval 3 3 v3 rfl rfl) h3
  clear hA0 hval0
  simp only [List.append_nil] at hW'
  refine (walk a0 a1 a2 a3 w0 w1 w2 w3 W).mono fun e W' ⟨he, hg⟩ => ?_
  subst he
  exact ⟨_, rfl, post_of_same (pa := []) (pv := []) hW' (fun _ _ _ => (trodAll_cons_mk (shut_bool Try.underlying4 _) trodAll_mk0)) (fun sp _ => (trodAll_cons_mk (shut_int Try.underlying3 w0) (trodAll_cons_mk (shut_int Try.underlying3 w1) (trodAll_cons_mk (shut_int Try.underlying3 w2) (trodAll_cons_mk (shut_int Try.underlying3 w3) trodAll_mk0))))) (fun _ _ => rfl) rfl
    (hg.frame _) hg.2.1 (ok_one (by kernel_rfl) rfl (okWide_bool_mk Try.underlying4 _))⟩

theorem over : Rows.cplxWholeRow.holds Try.pinned (OpenSpec.ofChange Rows.cplxWholeSpec) :=
  OpenClaim.holds_of_wide 7 Try.f7 rfl rfl rfl rfl rfl rfl rfl ⟨rfl, rfl, rfl, rfl, rfl⟩ rfl rfl rfl rfl rfl (by kernel_rfl) Try.func7 (by kernel_rfl)
    (of_decide_eq_true (by kernel_rfl)) (by unfold Func.isWrapper; first | (rw [if_pos (by decide +kernel)]; kernel_rfl) | (rw [if_neg (by decide +kernel)]; exact ⟨rfl, rfl⟩))
    (fun os started H enc _ => lifted os started H enc)

theorem proved : Rows.CplxWholeSaid :=
  over
#print axioms proved
end Go.Proofs.Ytmpninbkhaacoaa.cplxWhole
