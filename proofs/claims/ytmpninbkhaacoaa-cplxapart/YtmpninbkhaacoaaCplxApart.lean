/-
  Proved: CplxApart returns true for every input, and leaves its arguments as they were. No conditions.
-/
import Derived.Test.YtmpninbkhaacoaaRows
import Derived.WalkKit
import Derived.ProofKit
import Derived.OpenShut
import Derived.Test.YtmpninbkhaacoaaParse
import Derived.ShutString
namespace Go.Proofs.Ytmpninbkhaacoaa.cplxApart
open Go.ChangeShapes Go.WideShapes Go.ChangeAt Go.RowKit Go.Flo
open Go.ChangeMaps (open_string shut_string)
set_option linter.unusedVariables false

theorem own : ownKnob Try.prog.godebug = none := by kernel_rfl

theorem dr_below {B : Nat} {a b c : World} (h : Below B a b) (k : Dr b c) : Below B a c := by
  obtain ⟨n, rfl⟩ := k
  exact below_drewN h n

theorem toList_inj {a b : ByteArray} (h : a.toList = b.toList) : a = b := by
  have e : a.data.toList = b.data.toList := by
    rw [← Lib.toList_data, ← Lib.toList_data, h]
  cases a
  cases b
  simpa using e

set_option maxRecDepth 100000 in
set_option maxHeartbeats 1000000 in
theorem core (n0 n1 n2 n3 : Nat) (T U : ByteArray) (b : Bool) (hz : T.size = 33) (hb : (T.toList == U.toList) = b)
    (ht : ∀ w, Calls Try.prog 28 #[.complex .f64 n0 n1] w fun e w' => e = .returned (.string T) ∧ Below w.heap.size w w')
    (hu : ∀ w, Calls Try.prog 28 #[.complex .f64 n2 n3] w fun e w' => e = .returned (.string U) ∧ Below w.heap.size w w')
    (hs : ∀ w, Calls Try.prog 17 #[.complex .f64 n0 n1, .complex .f64 n2 n3] w fun e w' => e = .returned (.bool b) ∧ w = w')
    (hr : ∀ w, Calls Try.prog 17 #[.complex .f64 n2 n3, .complex .f64 n0 n1] w fun e w' => e = .returned (.bool b) ∧ w = w')
    (w : World) : Calls Try.prog 10 #[.int .u64 n0, .int .u64 n1, .int .u64 n2, .int .u64 n3] w fun e w' => e = .returned (.bool true) ∧ Below w.heap.size w w' := by
  go_enter Try.func10, Try.ntmps10
  go_wp2_with fail
  (with_reducible refine (of_any _ _ _).mono ?_)
  rintro e w0 ⟨rfl, rfl⟩
  go_wp2_with fail
  (with_reducible refine (of_any _ _ _).mono ?_)
  rintro e w0 ⟨rfl, rfl⟩
  go_wp2_with fail
  (with_reducible refine (ht _).mono ?_)
  rintro e w1 ⟨rfl, hd1⟩
  go_wp2_with fail
  (with_reducible refine (hu _).mono ?_)
  rintro e w2 ⟨rfl, hd2⟩
  go_wp2_with fail
  (with_reducible refine (hs _).mono ?_)
  rintro e w0 ⟨rfl, rfl⟩
  go_wp2_with fail
  (with_reducible refine (hs _).mono ?_)
  rintro e w0 ⟨rfl, rfl⟩
  go_wp2_with fail
  (with_reducible refine (hr _).mono ?_)
  rintro e w0 ⟨rfl, rfl⟩
  go_wp2_with fail
  (with_reducible refine (ht _).mono ?_)
  rintro e w3 ⟨rfl, hd3⟩
  go_wp2_with fail
  (with_reducible refine (awake_any _).mono ?_)
  rintro e w4 ⟨rfl, hd4⟩
  go_wp2
  go_ret
  have hz1 := hd1.size
  have hz2 := hd2.size
  exact ⟨rfl, dr_below ((hd1.trans (hd2.mono hz1)).trans (hd3.mono (by omega))) hd4⟩

theorem walk (a0 : Int) (a1 : Int) (a2 : Int) (a3 : Int) (w0 : (Lit.int .u64 a0).wf = true) (w1 : (Lit.int .u64 a1).wf = true) (w2 : (Lit.int .u64 a2).wf = true) (w3 : (Lit.int .u64 a3).wf = true) (w : World) :
    Calls Try.prog 10 #[.int .u64 a0, .int .u64 a1, .int .u64 a2, .int .u64 a3] w fun e w' => e = .returned (.bool true) ∧ Below w.heap.size w w' := by
  obtain ⟨n0, rfl, l0⟩ := u64_nat w0
  obtain ⟨n1, rfl, l1⟩ := u64_nat w1
  obtain ⟨n2, rfl, l2⟩ := u64_nat w2
  obtain ⟨n3, rfl, l3⟩ := u64_nat w3
  by_cases h : n0 = n2 ∧ n1 = n3
  · obtain ⟨rfl, rfl⟩ := h
    exact core n0 n1 n0 n1 _ _ true (textB_size _ _) (beq_self_eq_true _) (fun w => text_any n0 n1 w l0 l1) (fun w => text_any n0 n1 w l0 l1) (same_yes _ _) (same_yes _ _) w
  · refine core n0 n1 n2 n3 _ _ false (textB_size _ _) ?_ (fun w => text_any n0 n1 w l0 l1) (fun w => text_any n2 n3 w l2 l3) (same_no _ _ _ _ h) (same_no _ _ _ _ (fun k => h ⟨k.1.symm, k.2.symm⟩)) w
    exact beq_eq_false_iff_ne.2 fun k => h (textB_inj l0 l1 l2 l3 (toList_inj k))

set_option maxRecDepth 100000 in
theorem lifted (os : Os) (started : os.Started) (H : Type) (enc : TypeId × Value → H) :
    ReturnsInHanded {} Try.checked os 10 .any (Rows.cplxApartSpec.pre6 enc Try.prog Try.f10 Rows.cplxApartRow.domain false) (Rows.cplxApartSpec.post enc Try.prog Try.f10 false true false false) := by
  refine returnsInHanded_of_change (C := Try.checked) own started (by kernel_rfl) Try.func10
    (ChangeSpec.witness6 (enc := enc) (C := Try.checked) false ⟨#[], #[.int .u64 0, .int .u64 0, .int .u64 0, .int .u64 0], []⟩ 8 (by kernel_rfl) (by kernel_rfl) (by kernel_rfl) (by kernel_rfl)) ?_
  intro W base args ds gs before hval0 hW hcnd _
  have hval : ∀ (j : Nat) t v, Try.f10.params[j]? = some t → args[j]? = some v → Value.okWide Try.prog W .any base t v := hval0
  have hW' := hW
  obtain ⟨p, q, hA0, hV, rfl, hfz, hnd⟩ := hW
  have hA : DataW.TrodAll enc Try.prog W 0 (fun _ => true) true Try.f10.params.toList args.toList ds p := hA0
  rw [Try.params10] at hA hval
  obtain ⟨v0, vs0, d0, ds0, p0, q0, hargs, rfl, rfl, h0, r0⟩ := trodAll_cons hA
  obtain ⟨v1, vs1, d1, ds1, p1, q1, rfl, rfl, rfl, h1, r1⟩ := trodAll_cons r0
  obtain ⟨v2, vs2, d2, ds2, p2, q2, rfl, rfl, rfl, h2, r2⟩ := trodAll_cons r1
  obtain ⟨v3, vs3, d3, ds3, p3, q3, rfl, rfl, rfl, h3, r3⟩ := trodAll_cons r2
  obtain ⟨rfl, rfl, rfl⟩ := trodAll_nil r3
  obtain rfl : args = #[v0, v1, v2, v3] := by cases args; simp_all
  obtain ⟨rfl, rfl⟩ := trodVars_none hV
  obtain ⟨a0, rfl, rfl, rfl, w0⟩ := open_int Try.underlying22 (hval 0 22 v0 rfl rfl) h0
  obtain ⟨a1, rfl, rfl, rfl, w1⟩ := open_int Try.underlying22 (hval 1 22 v1 rfl rfl) h1
  obtain ⟨a2, rfl, rfl, rfl, w2⟩ := open_int Try.underlying22 (hval 2 22 v2 rfl rfl) h2
  obtain ⟨a3, rfl, rfl, rfl, w3⟩ := open_int Try.underlying22 (hval 3 22 v3 rfl rfl) h3
  clear hA0 hval0
  simp only [List.append_nil] at hW'
  refine (walk a0 a1 a2 a3 w0 w1 w2 w3 W).mono fun e W' ⟨he, hg⟩ => ?_
  subst he
  exact ⟨_, rfl, _, _, _, [], [], [], hW', trodAll_mk1 (shut_bool Try.underlying4 _), (trodAll_cons_mk (shut_int Try.underlying22 w0) (trodAll_cons_mk (shut_int Try.underlying22 w1) (trodAll_cons_mk (shut_int Try.underlying22 w2) (trodAll_cons_mk (shut_int Try.underlying22 w3) trodAll_mk0)))), rfl, hg.frame _, fun h => by cases h⟩

theorem over : Rows.cplxApartRow.holds Try.pinned (OpenSpec.ofChange Rows.cplxApartSpec) :=
  OpenClaim.holds_of_wide 10 Try.f10 rfl rfl rfl rfl rfl rfl rfl ⟨rfl, rfl, rfl, rfl, rfl⟩ rfl rfl rfl rfl rfl (by kernel_rfl) Try.func10 (by kernel_rfl)
    (of_decide_eq_true (by kernel_rfl)) (by unfold Func.isWrapper; first | (rw [if_pos (by decide +kernel)]; kernel_rfl) | (rw [if_neg (by decide +kernel)]; exact ⟨rfl, rfl⟩))
    (fun os started H enc _ => lifted os started H enc)

theorem proved : Rows.CplxApartSaid :=
  over
#print axioms proved
end Go.Proofs.Ytmpninbkhaacoaa.cplxApart
