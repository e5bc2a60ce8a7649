/-
  Proved: HeaderApart returns true for every input, and leaves its arguments as they were. No conditions.
-/
import Derived.Test.YthgobelfijnfeaaRows
import Derived.WalkKit
import Derived.ProofKit
import Derived.OpenShut
import Derived.Test.YthgobelfijnfeaaHdr3
import Derived.ShutString
namespace Go.Proofs.Ythgobelfijnfeaa.headerApart
open Go.ChangeShapes Go.WideShapes Go.ChangeAt Go.RowKit Go.Flo Go.Bit
open Go.ChangeMaps (open_string shut_string)
set_option linter.unusedVariables false

theorem own : ownKnob Try.prog.godebug = none := by kernel_rfl

set_option maxHeartbeats 400000 in
theorem core0 (A0 B0 M0 N0 E F z y p q : Int) (a b m n : Nat) (hm : m < 16) (hn : n < 16)
    (eA : wrap64 ((IntKind.u64.wrap A0).tmod 16) = a) (eB : wrap64 ((IntKind.u64.wrap B0).tmod 16) = b) (eM : wrap64 ((IntKind.u64.wrap M0).tmod 16) = m) (eN : wrap64 ((IntKind.u64.wrap N0).tmod 16) = n)
    (eE : IntKind.u32.wrap E = p) (eF : IntKind.u32.wrap F = q) (c9 : (z == y) = false) (c1 : ((a : Int) == b) = false)
    (h1 : ∀ w, Calls Try.prog 11 #[.int .i64 a, .int .i64 (m + 1), .int .u64 E] w fun e w' => e = .returned (.int .u64 z) ∧ Dr w w')
    (h2 : ∀ w, Calls Try.prog 11 #[.int .i64 b, .int .i64 (n + 1), .int .u64 F] w fun e w' => e = .returned (.int .u64 y) ∧ Dr w w')
    (w : World) :
    Calls Try.prog 6 #[.int .i64 A0, .int .i64 B0, .int .i64 M0, .int .i64 N0, .int .u64 E, .int .u64 F] w fun e w' => e = .returned (.bool true) ∧ Grown w w' := by
  have D := Dr.refl w
  go_enter Try.func6, Try.ntmps6
  go_wp2_with fail
  (with_reducible refine (h1 _).mono ?_)
  rintro e w' ⟨rfl, d⟩
  replace D := D.trans d
  clear d
  go_wp2_with fail
  (with_reducible refine (h2 _).mono ?_)
  rintro e w' ⟨rfl, d⟩
  replace D := D.trans d
  clear d
  go_wp2_with fail
  (with_reducible refine (awake_any _).mono ?_)
  rintro e w' ⟨rfl, d⟩
  replace D := D.trans d
  clear d
  go_wp2
  go_ret
  exact ⟨rfl, D.grown⟩

set_option maxHeartbeats 400000 in
theorem core1 (A0 B0 M0 N0 E F z y p q : Int) (a b m n : Nat) (hm : m < 16) (hn : n < 16)
    (eA : wrap64 ((IntKind.u64.wrap A0).tmod 16) = a) (eB : wrap64 ((IntKind.u64.wrap B0).tmod 16) = b) (eM : wrap64 ((IntKind.u64.wrap M0).tmod 16) = m) (eN : wrap64 ((IntKind.u64.wrap N0).tmod 16) = n)
    (eE : IntKind.u32.wrap E = p) (eF : IntKind.u32.wrap F = q) (c9 : (z == y) = false) (c1 : a = b) (c2 : ((m : Int) + 1 == n + 1) = false)
    (h1 : ∀ w, Calls Try.prog 11 #[.int .i64 a, .int .i64 (m + 1), .int .u64 E] w fun e w' => e = .returned (.int .u64 z) ∧ Dr w w')
    (h2 : ∀ w, Calls Try.prog 11 #[.int .i64 b, .int .i64 (n + 1), .int .u64 F] w fun e w' => e = .returned (.int .u64 y) ∧ Dr w w')
    (w : World) :
    Calls Try.prog 6 #[.int .i64 A0, .int .i64 B0, .int .i64 M0, .int .i64 N0, .int .u64 E, .int .u64 F] w fun e w' => e = .returned (.bool true) ∧ Grown w w' := by
  subst c1
  have D := Dr.refl w
  go_enter Try.func6, Try.ntmps6
  go_wp2_with fail
  (with_reducible refine (h1 _).mono ?_)
  rintro e w' ⟨rfl, d⟩
  replace D := D.trans d
  clear d
  go_wp2_with fail
  (with_reducible refine (h2 _).mono ?_)
  rintro e w' ⟨rfl, d⟩
  replace D := D.trans d
  clear d
  go_wp2_with fail
  (with_reducible refine (awake_any _).mono ?_)
  rintro e w' ⟨rfl, d⟩
  replace D := D.trans d
  clear d
  go_wp2
  go_ret
  exact ⟨rfl, D.grown⟩

set_option maxHeartbeats 400000 in
theorem core2 (A0 B0 M0 N0 E F z y p q : Int) (a b m n : Nat) (hm : m < 16) (hn : n < 16)
    (eA : wrap64 ((IntKind.u64.wrap A0).tmod 16) = a) (eB : wrap64 ((IntKind.u64.wrap B0).tmod 16) = b) (eM : wrap64 ((IntKind.u64.wrap M0).tmod 16) = m) (eN : wrap64 ((IntKind.u64.wrap N0).tmod 16) = n)
    (eE : IntKind.u32.wrap E = p) (eF : IntKind.u32.wrap F = q) (c9 : (z == y) = false) (c1 : a = b) (c2 : m = n) (c3 : (p == q) = false)
    (h1 : ∀ w, Calls Try.prog 11 #[.int .i64 a, .int .i64 (m + 1), .int .u64 E] w fun e w' => e = .returned (.int .u64 z) ∧ Dr w w')
    (h2 : ∀ w, Calls Try.prog 11 #[.int .i64 b, .int .i64 (n + 1), .int .u64 F] w fun e w' => e = .returned (.int .u64 y) ∧ Dr w w')
    (w : World) :
    Calls Try.prog 6 #[.int .i64 A0, .int .i64 B0, .int .i64 M0, .int .i64 N0, .int .u64 E, .int .u64 F] w fun e w' => e = .returned (.bool true) ∧ Grown w w' := by
  subst c1 c2
  have D := Dr.refl w
  go_enter Try.func6, Try.ntmps6
  go_wp2_with fail
  (with_reducible refine (h1 _).mono ?_)
  rintro e w' ⟨rfl, d⟩
  replace D := D.trans d
  clear d
  go_wp2_with fail
  (with_reducible refine (h2 _).mono ?_)
  rintro e w' ⟨rfl, d⟩
  replace D := D.trans d
  clear d
  go_wp2_with fail
  (with_reducible refine (awake_any _).mono ?_)
  rintro e w' ⟨rfl, d⟩
  replace D := D.trans d
  clear d
  go_wp2
  go_ret
  exact ⟨rfl, D.grown⟩

set_option maxHeartbeats 400000 in
theorem core3 (A0 B0 M0 N0 E F z y p q : Int) (a b m n : Nat) (hm : m < 16) (hn : n < 16)
    (eA : wrap64 ((IntKind.u64.wrap A0).tmod 16) = a) (eB : wrap64 ((IntKind.u64.wrap B0).tmod 16) = b) (eM : wrap64 ((IntKind.u64.wrap M0).tmod 16) = m) (eN : wrap64 ((IntKind.u64.wrap N0).tmod 16) = n)
    (eE : IntKind.u32.wrap E = p) (eF : IntKind.u32.wrap F = q) (c1 : a = b) (c2 : m = n) (c3 : p = q) (c9 : z = y)
    (h1 : ∀ w, Calls Try.prog 11 #[.int .i64 a, .int .i64 (m + 1), .int .u64 E] w fun e w' => e = .returned (.int .u64 z) ∧ Dr w w')
    (h2 : ∀ w, Calls Try.prog 11 #[.int .i64 b, .int .i64 (n + 1), .int .u64 F] w fun e w' => e = .returned (.int .u64 y) ∧ Dr w w')
    (w : World) :
    Calls Try.prog 6 #[.int .i64 A0, .int .i64 B0, .int .i64 M0, .int .i64 N0, .int .u64 E, .int .u64 F] w fun e w' => e = .returned (.bool true) ∧ Grown w w' := by
  subst c1 c2 c3 c9
  have D := Dr.refl w
  go_enter Try.func6, Try.ntmps6
  go_wp2_with fail
  (with_reducible refine (h1 _).mono ?_)
  rintro e w' ⟨rfl, d⟩
  replace D := D.trans d
  clear d
  go_wp2_with fail
  (with_reducible refine (h2 _).mono ?_)
  rintro e w' ⟨rfl, d⟩
  replace D := D.trans d
  clear d
  go_wp2_with fail
  (with_reducible refine (awake_any _).mono ?_)
  rintro e w' ⟨rfl, d⟩
  replace D := D.trans d
  clear d
  go_wp2
  go_ret
  exact ⟨rfl, D.grown⟩

theorem u32_nat (t : Nat) : IntKind.u32.wrap (t : Int) = ((t % 4294967296 : Nat) : Int) := by
  rw [IntKind.wrap_u32]
  omega

theorem walk (a0 : Int) (a1 : Int) (a2 : Int) (a3 : Int) (a4 : Int) (a5 : Int) (w0 : (Lit.int .i64 a0).wf = true) (w1 : (Lit.int .i64 a1).wf = true) (w2 : (Lit.int .i64 a2).wf = true) (w3 : (Lit.int .i64 a3).wf = true) (w4 : (Lit.int .u64 a4).wf = true) (w5 : (Lit.int .u64 a5).wf = true) (w : World) :
    Calls Try.prog 6 #[.int .i64 a0, .int .i64 a1, .int .i64 a2, .int .i64 a3, .int .u64 a4, .int .u64 a5] w fun e w' => e = .returned (.bool true) ∧ Grown w w' := by
  obtain ⟨s, rfl, b4⟩ := u64_nat w4
  obtain ⟨t, rfl, b5⟩ := u64_nat w5
  obtain ⟨a, ha, ea⟩ := slot_mod a0 16 (by decide) (by decide)
  obtain ⟨b, hb, eb⟩ := slot_mod a1 16 (by decide) (by decide)
  obtain ⟨m, hm, em⟩ := slot_mod a2 16 (by decide) (by decide)
  obtain ⟨n, hn, en⟩ := slot_mod a3 16 (by decide) (by decide)
  have hm' : m + 1 ≤ 16 := by omega
  have hn' : n + 1 ≤ 16 := by omega
  have h1 := make_yes a (m + 1) s ha (Nat.succ_pos _) hm' b4
  have h2 := make_yes b (n + 1) t hb (Nat.succ_pos _) hn' b5
  have hq := hd_eq a b (m + 1) (n + 1) s t ha hb hm' hn'
  by_cases c1 : a = b
  · by_cases c2 : m = n
    · by_cases c3 : s % 4294967296 = t % 4294967296
      · exact core3 a0 a1 a2 a3 s t _ _ _ _ a b m n hm hn ea eb em en (u32_nat s) (u32_nat t) c1 c2 (congrArg Nat.cast c3) (congrArg Nat.cast (hq.2 ⟨⟨c1, congrArg (· + 1) c2⟩, c3⟩)) h1 h2 w
      · have hne : hd a (m + 1) s ≠ hd b (n + 1) t := fun e => c3 (hq.1 e).2
        exact core2 a0 a1 a2 a3 s t _ _ _ _ a b m n hm hn ea eb em en (u32_nat s) (u32_nat t) (by simp; omega) c1 c2 (by simp; omega) h1 h2 w
    · have hne : hd a (m + 1) s ≠ hd b (n + 1) t := fun e => c2 (by have := (hq.1 e).1.2; omega)
      exact core1 a0 a1 a2 a3 s t _ _ _ _ a b m n hm hn ea eb em en (u32_nat s) (u32_nat t) (by simp; omega) c1 (by simp; omega) h1 h2 w
  · have hne : hd a (m + 1) s ≠ hd b (n + 1) t := fun e => c1 (hq.1 e).1.1
    exact core0 a0 a1 a2 a3 s t _ _ _ _ a b m n hm hn ea eb em en (u32_nat s) (u32_nat t) (by simp; omega) (by simp; omega) h1 h2 w

set_option maxRecDepth 100000 in
theorem lifted (os : Os) (started : os.Started) (H : Type) (enc : TypeId × Value → H) :
    ReturnsInHanded {} Try.checked os 6 .any (Rows.headerApartSpec.pre6 enc Try.prog Try.f6 Rows.headerApartRow.domain false) (Rows.headerApartSpec.post enc Try.prog Try.f6 false true false false) := by
  refine returnsInHanded_of_change (C := Try.checked) own started (by kernel_rfl) Try.func6
    (ChangeSpec.witness6 (enc := enc) (C := Try.checked) false ⟨#[], #[.int .i64 0, .int .i64 0, .int .i64 0, .int .i64 0, .int .u64 0, .int .u64 0], []⟩ 8 (by kernel_rfl) (by kernel_rfl) (by kernel_rfl) (by kernel_rfl)) ?_
  intro W base args ds gs before hval0 hW hcnd _
  have hval : ∀ (j : Nat) t v, Try.f6.params[j]? = some t → args[j]? = some v → Value.okWide Try.prog W .any base t v := hval0
  have hW' := hW
  obtain ⟨p, q, hA0, hV, rfl, hfz, hnd⟩ := hW
  have hA : DataW.TrodAll enc Try.prog W 0 (fun _ => true) true Try.f6.params.toList args.toList ds p := hA0
  rw [Try.params6] at hA hval
  obtain ⟨v0, vs0, d0, ds0, p0, q0, hargs, rfl, rfl, h0, r0⟩ := trodAll_cons hA
  obtain ⟨v1, vs1, d1, ds1, p1, q1, rfl, rfl, rfl, h1, r1⟩ := trodAll_cons r0
  obtain ⟨v2, vs2, d2, ds2, p2, q2, rfl, rfl, rfl, h2, r2⟩ := trodAll_cons r1
  obtain ⟨v3, vs3, d3, ds3, p3, q3, rfl, rfl, rfl, h3, r3⟩ := trodAll_cons r2
  obtain ⟨v4, vs4, d4, ds4, p4, q4, rfl, rfl, rfl, h4, r4⟩ := trodAll_cons r3
  obtain ⟨v5, vs5, d5, ds5, p5, q5, rfl, rfl, rfl, h5, r5⟩ := trodAll_cons r4
  obtain ⟨rfl, rfl, rfl⟩ := trodAll_nil r5
  obtain rfl : args = #[v0, v1, v2, v3, v4, v5] := by cases args; simp_all
  obtain ⟨rfl, rfl⟩ := trodVars_none hV
  obtain ⟨a0, rfl, rfl, rfl, w0⟩ := open_int Try.underlying3 (hval 0 3 v0 rfl rfl) h0
  obtain ⟨a1, rfl, rfl, rfl, w1⟩ := open_int Try.underlying3 (hval 1 3 v1 rfl rfl) h1
  obtain ⟨a2, rfl, rfl, rfl, w2⟩ := open_int Try.underlying3 (hval 2 3 v2 rfl rfl) h2
  obtain ⟨a3, rfl, rfl, rfl, w3⟩ := open_int Try.underlying3 (hval 3 3 v3 rfl rfl) h3
  obtain ⟨a4, rfl, rfl, rfl, w4⟩ := open_int Try.underlying22 (hval 4 22 v4 rfl rfl) h4
  obtain ⟨a5, rfl, rfl, rfl, w5⟩ := open_int Try.underlying22 (hval 5 22 v5 rfl rfl) h5
  clear hA0 hval0
  simp only [List.append_nil] at hW'
  refine (walk a0 a1 a2 a3 a4 a5 w0 w1 w2 w3 w4 w5 W).mono fun e W' ⟨he, hg⟩ => ?_
  subst he
  exact ⟨_, rfl, post_of_same (pa := []) (pv := []) hW' (fun _ _ _ => (trodAll_cons_mk (shut_bool Try.underlying4 _) trodAll_mk0)) (fun sp _ => (trodAll_cons_mk (shut_int Try.underlying3 w0) (trodAll_cons_mk (shut_int Try.underlying3 w1) (trodAll_cons_mk (shut_int Try.underlying3 w2) (trodAll_cons_mk (shut_int Try.underlying3 w3) (trodAll_cons_mk (shut_int Try.underlying22 w4) (trodAll_cons_mk (shut_int Try.underlying22 w5) trodAll_mk0))))))) (fun _ _ => rfl) rfl
    (hg.frame _) hg.2.1 (ok_one (by kernel_rfl) rfl (okWide_bool_mk Try.underlying4 _))⟩

theorem over : Rows.headerApartRow.holds Try.pinned (OpenSpec.ofChange Rows.headerApartSpec) :=
  OpenClaim.holds_of_wide 6 Try.f6 rfl rfl rfl rfl rfl rfl rfl ⟨rfl, rfl, rfl, rfl, rfl⟩ rfl rfl rfl rfl rfl (by kernel_rfl) Try.func6 (by kernel_rfl)
    (of_decide_eq_true (by kernel_rfl)) (by unfold Func.isWrapper; first | (rw [if_pos (by decide +kernel)]; kernel_rfl) | (rw [if_neg (by decide +kernel)]; exact ⟨rfl, rfl⟩))
    (fun os started H enc _ => lifted os started H enc)

theorem proved : Rows.HeaderApartSaid :=
  over
#print axioms proved
end Go.Proofs.Ythgobelfijnfeaa.headerApart
