/-
  Proved: CplxPowersAdd returns true for every input, and leaves its arguments as they were. No conditions.
-/
import Derived.Test.YtmpninbkhaacoaaRows
import Derived.WalkKit
import Derived.ProofKit
import Derived.OpenShut
import Derived.Test.YtmpninbkhaacoaaPow
import Derived.Test.YtmpninbkhaacoaaWhole
import Derived.ShutString
namespace Go.Proofs.Ytmpninbkhaacoaa.cplxPowersAdd
open Go.ChangeShapes Go.WideShapes Go.ChangeAt Go.RowKit Go.Flo
open Go.ChangeMaps (open_string shut_string)
set_option linter.unusedVariables false

theorem own : ownKnob Try.prog.godebug = none := by kernel_rfl

theorem um (a : Int) : ∃ m : Nat, (IntKind.u64.wrap a).tmod 5 = (m : Int) ∧ m ≤ 4 := by
  rw [IntKind.wrap_u64, Int.tmod_eq_emod_of_nonneg (by omega)]
  exact ⟨(a % 18446744073709551616 % 5).toNat, by omega, by omega⟩

theorem power_nat (a b n : Nat) (h : n ≤ 4096) (w : World) : Calls Try.prog 25 #[.complex .f64 a b, .int .i64 n] w fun e w' => e = .returned (.complex .f64 (pw (a, b) n).1 (pw (a, b) n).2) ∧ Dr w w' := by
  unfold pw
  by_cases h0 : n = 0
  · subst h0
    exact (power_low a b 0 (by decide) w).mono fun e w' h => ⟨h.1, h.2 ▸ Dr.refl _⟩
  · rw [if_neg h0]
    exact power_pos a b n n (by omega) (by omega) w

set_option maxRecDepth 100000 in
set_option maxHeartbeats 1000000 in
theorem core (a0 a1 a2 a3 p q : Int) (m n fp fq x1 x2 x3 x4 x5 x6 x7 x8 y1 y2 y3 y4 z1 z2 : Nat)
    (hp : a0.tmod 6 = p) (hq : a1.tmod 6 = q) (hm : (IntKind.u64.wrap a2).tmod 5 = (m : Int)) (hn : (IntKind.u64.wrap a3).tmod 5 = (n : Int)) (bm : m ≤ 4) (bn : n ≤ 4)
    (f1 : floatOfInt .f64 p = fp) (f2 : floatOfInt .f64 q = fq)
    (hmn : ∀ w, Calls Try.prog 25 #[.complex .f64 fp fq, .int .i64 ((m : Int) + n)] w fun e w' => e = .returned (.complex .f64 x1 x2) ∧ Dr w w')
    (hpm : ∀ w, Calls Try.prog 25 #[.complex .f64 fp fq, .int .i64 m] w fun e w' => e = .returned (.complex .f64 x3 x4) ∧ Dr w w')
    (hpn : ∀ w, Calls Try.prog 25 #[.complex .f64 fp fq, .int .i64 n] w fun e w' => e = .returned (.complex .f64 x5 x6) ∧ Dr w w')
    (hmul : ∀ w, Calls Try.prog 21 #[.complex .f64 x3 x4, .complex .f64 x5 x6] w fun e w' => e = .returned (.complex .f64 x7 x8) ∧ Dr w w')
    (hp1 : ∀ w, Calls Try.prog 25 #[.complex .f64 fp fq, .int .i64 1] w fun e w' => e = .returned (.complex .f64 y1 y2) ∧ Dr w w')
    (hp2 : ∀ w, Calls Try.prog 25 #[.complex .f64 fp fq, .int .i64 2] w fun e w' => e = .returned (.complex .f64 y3 y4) ∧ Dr w w')
    (hsq : ∀ w, Calls Try.prog 21 #[.complex .f64 fp fq, .complex .f64 fp fq] w fun e w' => e = .returned (.complex .f64 z1 z2) ∧ Dr w w')
    (t1 : (FloatKind.f64.format.order x1 x7 == some Ordering.eq) = true) (t2 : (FloatKind.f64.format.order x2 x8 == some Ordering.eq) = true)
    (t3 : (FloatKind.f64.format.order y1 fp == some Ordering.eq) = true) (t4 : (FloatKind.f64.format.order y2 fq == some Ordering.eq) = true)
    (t5 : (FloatKind.f64.format.order y3 z1 == some Ordering.eq) = true) (t6 : (FloatKind.f64.format.order y4 z2 == some Ordering.eq) = true)
    (w : World) : Calls Try.prog 9 #[.int .i64 a0, .int .i64 a1, .int .i64 a2, .int .i64 a3] w fun e w' => e = .returned (.bool true) ∧ Grown w w' := by
  go_enter Try.func9, Try.ntmps9
  go_wp2_with fail
  (with_reducible refine (hmn _).mono ?_)
  rintro e w1 ⟨rfl, hd1⟩
  go_wp2_with fail
  (with_reducible refine (hpm _).mono ?_)
  rintro e w2 ⟨rfl, hd2⟩
  go_wp2_with fail
  (with_reducible refine (hpn _).mono ?_)
  rintro e w3 ⟨rfl, hd3⟩
  go_wp2_with fail
  (with_reducible refine (hmul _).mono ?_)
  rintro e w4 ⟨rfl, hd4⟩
  go_wp2_with fail
  (with_reducible refine (hp1 _).mono ?_)
  rintro e w5 ⟨rfl, hd5⟩
  go_wp2_with fail
  (with_reducible refine (hp2 _).mono ?_)
  rintro e w6 ⟨rfl, hd6⟩
  go_wp2_with fail
  (with_reducible refine (hsq _).mono ?_)
  rintro e w7 ⟨rfl, hd7⟩
  go_wp2_with fail
  (with_reducible refine (awake_any _).mono ?_)
  rintro e w8 ⟨rfl, hd8⟩
  go_wp2
  go_ret
  exact ⟨rfl, (((((((hd1.trans hd2).trans hd3).trans hd4).trans hd5).trans hd6).trans hd7).trans hd8).grown⟩

theorem walk (a0 : Int) (a1 : Int) (a2 : Int) (a3 : Int) (w0 : (Lit.int .i64 a0).wf = true) (w1 : (Lit.int .i64 a1).wf = true) (w2 : (Lit.int .i64 a2).wf = true) (w3 : (Lit.int .i64 a3).wf = true) (w : World) :
    Calls Try.prog 9 #[.int .i64 a0, .int .i64 a1, .int .i64 a2, .int .i64 a3] w fun e w' => e = .returned (.bool true) ∧ Grown w w' := by
  obtain ⟨m, hm, bm⟩ := um a2
  obtain ⟨n, hn, bn⟩ := um a3
  have bb : ∀ a : Int, (a.tmod 6).natAbs ≤ 5 := fun a => Nat.le_of_lt_succ (tmod_abs a 6 (by decide))
  have b0 := bb a0
  have b1 := bb a1
  have sa : SZ (floatOfInt .f64 (a0.tmod 6), floatOfInt .f64 (a1.tmod 6)) (a0.tmod 6, a1.tmod 6) 10 :=
    ⟨isInt_ofInt _ (Nat.lt_of_le_of_lt b0 (by decide)), isInt_ofInt _ (Nat.lt_of_le_of_lt b1 (by decide)), Nat.add_le_add b0 b1⟩
  have big : ∀ j, j ≤ 8 → 10 ^ j < 2 ^ 53 := fun j hj => Nat.lt_of_le_of_lt (Nat.pow_le_pow_right (by decide) hj) (by decide)
  have s1 := pw_whole sa (m + n) (by omega)
  have s2 := (pw_whole sa m (by omega)).mul (pw_whole sa n (by omega)) (big _ (by omega)) (big _ (by omega)) (by rw [← Nat.pow_add]; exact big _ (by omega))
  have s3 := pw_whole sa 1 (by decide)
  have s4 := pw_whole sa 2 (by decide)
  have s5 := sa.mul sa (by decide) (by decide) (by decide)
  have hmn := power_nat (floatOfInt .f64 (a0.tmod 6)) (floatOfInt .f64 (a1.tmod 6)) (m + n) (by omega)
  rw [Int.natCast_add] at hmn
  exact core a0 a1 a2 a3 _ _ m n _ _ _ _ _ _ _ _ _ _ _ _ _ _ _ _ rfl rfl hm hn bm bn rfl rfl hmn (power_nat _ _ m (by omega)) (power_nat _ _ n (by omega)) (mul_any _ _ _ _) (power_nat _ _ 1 (by omega)) (power_nat _ _ 2 (by omega)) (mul_any _ _ _ _)
    (s1.re s2 (powZ_add _ _ _).symm) (s1.im s2 (powZ_add _ _ _).symm) (s3.re sa (one_mulZ _)) (s3.im sa (one_mulZ _))
    (s4.re s5 (by show mulZ (mulZ (1, 0) _) _ = _; rw [one_mulZ])) (s4.im s5 (by show mulZ (mulZ (1, 0) _) _ = _; rw [one_mulZ])) w

set_option maxRecDepth 100000 in
theorem lifted (os : Os) (started : os.Started) (H : Type) (enc : TypeId × Value → H) :
    ReturnsInHanded {} Try.checked os 9 .any (Rows.cplxPowersAddSpec.pre6 enc Try.prog Try.f9 Rows.cplxPowersAddRow.domain false) (Rows.cplxPowersAddSpec.post enc Try.prog Try.f9 false true false false) := by
  refine returnsInHanded_of_change (C := Try.checked) own started (by kernel_rfl) Try.func9
    (ChangeSpec.witness6 (enc := enc) (C := Try.checked) false ⟨#[], #[.int .i64 0, .int .i64 0, .int .i64 0, .int .i64 0], []⟩ 8 (by kernel_rfl) (by kernel_rfl) (by kernel_rfl) (by kernel_rfl)) ?_
  intro W base args ds gs before hval0 hW hcnd _
  have hval : ∀ (j : Nat) t v, Try.f9.params[j]? = some t → args[j]? = some v → Value.okWide Try.prog W .any base t v := hval0
  have hW' := hW
  obtain ⟨p, q, hA0, hV, rfl, hfz, hnd⟩ := hW
  have hA : DataW.TrodAll enc Try.prog W 0 (fun _ => true) true Try.f9.params.toList args.toList ds p := hA0
  rw [Try.params9] at hA hval
  obtain ⟨v0, vs0, d0, ds0, p0, q0, hargs, rfl, rfl, h0, r0⟩ := trodAll_cons hA
  obtain ⟨v1, vs1, d1, ds1, p1, q1, rfl, rfl, rfl, h1, r1⟩ := trodAll_cons r0
  obtain ⟨v2, vs2, d2, ds2, p2, q2, rfl, rfl, rfl, h2, r2⟩ := trodAll_cons r1
  obtain ⟨v3, vs3, d3, ds3, p3, q3, rfl, rfl, rfl, h3, r3⟩ := trodAll_cons r2
  obtain ⟨rfl, rfl, rfl⟩ := trodAll_nil r3
  obtain rfl : args = #[v0, v1, v2, v3] := by cases args; simp_all
  obtain ⟨rfl, rfl⟩ := trodVars_none hV
  obtain ⟨a0, rfl, rfl, rfl, w0⟩ := open_int Try.underlying3 (hval 0 3 v0 rfl rfl) h0
  obtain ⟨a1, rfl, rfl, rfl, w1⟩ := open_int Try.underlying3 (hval 1 3 v1 rfl rfl) h1
  obtain ⟨a2, rfl, rfl, rfl, w2⟩ := open_int Try.underlying3 (hval 2 3 v2 rfl rfl) h2
  obtain ⟨a3, rfl, rfl, rfl, w3⟩ := open_int Try.underlying3 (hval 3 3 v3 rfl rfl) h3
  clear hA0 hval0
  simp only [List.append_nil] at hW'
  refine (walk a0 a1 a2 a3 w0 w1 w2 w3 W).mono fun e W' ⟨he, hg⟩ => ?_
  subst he
  exact ⟨_, rfl, post_of_same (pa := []) (pv := []) hW' (fun _ _ _ => (trodAll_cons_mk (shut_bool Try.underlying4 _) trodAll_mk0)) (fun sp _ => (trodAll_cons_mk (shut_int Try.underlying3 w0) (trodAll_cons_mk (shut_int Try.underlying3 w1) (trodAll_cons_mk (shut_int Try.underlying3 w2) (trodAll_cons_mk (shut_int Try.underlying3 w3) trodAll_mk0))))) (fun _ _ => rfl) rfl
    (hg.frame _) hg.2.1 (ok_one (by kernel_rfl) rfl (okWide_bool_mk Try.underlying4 _))⟩

theorem over : Rows.cplxPowersAddRow.holds Try.pinned (OpenSpec.ofChange Rows.cplxPowersAddSpec) :=
  OpenClaim.holds_of_wide 9 Try.f9 rfl rfl rfl rfl rfl rfl rfl ⟨rfl, rfl, rfl, rfl, rfl⟩ rfl rfl rfl rfl rfl (by kernel_rfl) Try.func9 (by kernel_rfl)
    (of_decide_eq_true (by kernel_rfl)) (by unfold Func.isWrapper; first | (rw [if_pos (by decide +kernel)]; kernel_rfl) | (rw [if_neg (by decide +kernel)]; exact ⟨rfl, rfl⟩))
    (fun os started H enc _ => lifted os started H enc)

theorem proved : Rows.CplxPowersAddSaid :=
  over
#print axioms proved
end Go.Proofs.Ytmpninbkhaacoaa.cplxPowersAdd
