/-
  Proved: HeaderBack returns true for every input, and leaves its arguments as they were. No conditions.
-/
import Derived.Test.YthgobelfijnfeaaRows
import Derived.WalkKit
import Derived.ProofKit
import Derived.OpenShut
import Derived.Test.YthgobelfijnfeaaHdr3
import Derived.ShutString
namespace Go.Proofs.Ythgobelfijnfeaa.headerBack
open Go.ChangeShapes Go.WideShapes Go.ChangeAt Go.RowKit Go.Flo Go.Bit
open Go.ChangeMaps (open_string shut_string)
set_option linter.unusedVariables false

theorem own : ownKnob Try.prog.godebug = none := by kernel_rfl

set_option maxHeartbeats 400000 in
theorem core (K0 M0 T B0 z q y : Int) (k m b : Nat) (hm : m < 16) (hb : b < 64)
    (eK : wrap64 ((IntKind.u64.wrap K0).tmod 16) = k) (eM : wrap64 ((IntKind.u64.wrap M0).tmod 16) = m) (eB : (IntKind.u64.wrap B0).tmod 64 = b)
    (e1 : bits BinOp.and IntKind.u64 T 4294967295 = q) (e2 : bits BinOp.xor IntKind.u64 z (IntKind.u64.wrap (2 ^ b)) = y)
    (h1 : ∀ w, Calls Try.prog 11 #[.int .i64 k, .int .i64 (m + 1), .int .u64 T] w fun e w' => e = .returned (.int .u64 z) ∧ Dr w w')
    (h2 : ∀ w, Calls Try.prog 8 #[.int .u64 z] w fun e w' => e = .returned (.tuple #[.int .i64 k, .int .i64 (m + 1), .int .u64 q, .bool true]) ∧ Dr w w')
    (h3 : ∀ w, Calls Try.prog 8 #[.int .u64 y] w fun e w' => e = .returned (.tuple #[.int .i64 0, .int .i64 0, .int .u64 0, .bool false]) ∧ Dr w w')
    (h4 : ∀ w, Calls Try.prog 8 #[.int .u64 0] w fun e w' => e = .returned (.tuple #[.int .i64 0, .int .i64 0, .int .u64 0, .bool false]) ∧ Dr w w')
    (w : World) :
    Calls Try.prog 4 #[.int .i64 K0, .int .i64 M0, .int .u64 T, .int .i64 B0] w fun e w' => e = .returned (.bool true) ∧ Grown w w' := by
  have D := Dr.refl w
  go_enter Try.func4, Try.ntmps4
  go_wp2_with fail
  (with_reducible refine (h1 _).mono ?_)
  rintro e w' ⟨rfl, d⟩
  replace D := D.trans d
  clear d
  go_wp2_with fail
  (with_reducible refine (h2 _).mono ?_)
  rintro e w' ⟨rfl, d⟩
  replace D := D.trans d
  clear d
  go_wp2_with fail
  (with_reducible refine (h3 _).mono ?_)
  rintro e w' ⟨rfl, d⟩
  replace D := D.trans d
  clear d
  go_wp2_with fail
  (with_reducible refine (h4 _).mono ?_)
  rintro e w' ⟨rfl, d⟩
  replace D := D.trans d
  clear d
  go_wp2_with fail
  (with_reducible refine (awake_any _).mono ?_)
  rintro e w' ⟨rfl, d⟩
  replace D := D.trans d
  clear d
  go_wp2
  go_ret
  exact ⟨rfl, D.grown⟩

theorem slot_u64 (a : Int) : ∃ f : Nat, f < 64 ∧ (IntKind.u64.wrap a).tmod 64 = f := by
  have e : IntKind.u64.wrap a = ((a % 18446744073709551616).toNat : Int) := by rw [IntKind.wrap_u64]; omega
  exact ⟨(a % 18446744073709551616).toNat % 64, by omega, by rw [e]; exact (Int.ofNat_tmod _ 64).symm⟩

theorem xor_pow (x b : Nat) (hx : x < 18446744073709551616) (hb : b < 64) : bits BinOp.xor IntKind.u64 (x : Int) (IntKind.u64.wrap (2 ^ b)) = ((x ^^^ 2 ^ b : Nat) : Int) := by
  have hp : (2 : Nat) ^ b < 18446744073709551616 := by
    have h4 : (2 : Nat) ^ 64 = 18446744073709551616 := by decide
    rw [← h4]
    exact Nat.pow_lt_pow_right (by decide) hb
  have e : IntKind.u64.wrap (2 ^ b) = ((2 ^ b : Nat) : Int) := by
    have e0 : (2 : Int) ^ b = ((2 ^ b : Nat) : Int) := by simp
    rw [IntKind.wrap_u64, e0]
    generalize (2 : Nat) ^ b = p at hp
    omega
  rw [e, u64_xor_nat _ _ hx hp]

theorem walk (a0 : Int) (a1 : Int) (a2 : Int) (a3 : Int) (w0 : (Lit.int .i64 a0).wf = true) (w1 : (Lit.int .i64 a1).wf = true) (w2 : (Lit.int .u64 a2).wf = true) (w3 : (Lit.int .i64 a3).wf = true) (w : World) :
    Calls Try.prog 4 #[.int .i64 a0, .int .i64 a1, .int .u64 a2, .int .i64 a3] w fun e w' => e = .returned (.bool true) ∧ Grown w w' := by
  obtain ⟨t, rfl, b2⟩ := u64_nat w2
  obtain ⟨k, hk, ek⟩ := slot_mod a0 16 (by decide) (by decide)
  obtain ⟨m, hm, em⟩ := slot_mod a1 16 (by decide) (by decide)
  obtain ⟨b, hb, eb⟩ := slot_u64 a3
  have hm' : m + 1 ≤ 16 := by omega
  have hz := hd_lt k (m + 1) t hk hm'
  have his := hd_is k (m + 1) t hk (Nat.succ_pos _) hm'
  have h1 := make_yes k (m + 1) t hk (Nat.succ_pos _) hm' b2
  have h2 := parse_yes _ hz his
  unfold partsV at h2
  rw [hd_k _ _ _ hk hm', hd_m _ _ _ hk hm', hd_e _ _ _ hk hm'] at h2
  have e1 : bits BinOp.and IntKind.u64 (t : Int) 4294967295 = ((t % 4294967296 : Nat) : Int) := and_mask t 32 b2 (by decide)
  have h3 := parse_no _ (xor_lt _ b hz hb) (turned_no _ b hb his)
  have h4 := parse_no 0 (by decide) zero_no
  exact core a0 a1 t a3 _ _ _ k m b hm hb ek em eb e1 (xor_pow _ b hz hb) h1 h2 h3 h4 w

set_option maxRecDepth 100000 in
theorem lifted (os : Os) (started : os.Started) (H : Type) (enc : TypeId × Value → H) :
    ReturnsInHanded {} Try.checked os 4 .any (Rows.headerBackSpec.pre6 enc Try.prog Try.f4 Rows.headerBackRow.domain false) (Rows.headerBackSpec.post enc Try.prog Try.f4 false true false false) := by
  refine returnsInHanded_of_change (C := Try.checked) own started (by kernel_rfl) Try.func4
    (ChangeSpec.witness6 (enc := enc) (C := Try.checked) false ⟨#[], #[.int .i64 0, .int .i64 0, .int .u64 0, .int .i64 0], []⟩ 8 (by kernel_rfl) (by kernel_rfl) (by kernel_rfl) (by kernel_rfl)) ?_
  intro W base args ds gs before hval0 hW hcnd _
  have hval : ∀ (j : Nat) t v, Try.f4.params[j]? = some t → args[j]? = some v → Value.okWide Try.prog W .any base t v := hval0
  have hW' := hW
  obtain ⟨p, q, hA0, hV, rfl, hfz, hnd⟩ := hW
  have hA : DataW.TrodAll enc Try.prog W 0 (fun _ => true) true Try.f4.params.toList args.toList ds p := hA0
  rw [Try.params4] at hA hval
  obtain ⟨v0, vs0, d0, ds0, p0, q0, hargs, rfl, rfl, h0, r0⟩ := trodAll_cons hA
  obtain ⟨v1, vs1, d1, ds1, p1, q1, rfl, rfl, rfl, h1, r1⟩ := trodAll_cons r0
  obtain ⟨v2, vs2, d2, ds2, p2, q2, rfl, rfl, rfl, h2, r2⟩ := trodAll_cons r1
  obtain ⟨v3, vs3, d3, ds3, p3, q3, rfl, rfl, rfl, h3, r3⟩ := trodAll_cons r2
  obtain ⟨rfl, rfl, rfl⟩ := trodAll_nil r3
  obtain rfl : args = #[v0, v1, v2, v3] := by cases args; simp_all
  obtain ⟨rfl, rfl⟩ := trodVars_none hV
  obtain ⟨a0, rfl, rfl, rfl, w0⟩ := open_int Try.underlying3 (hval 0 3 v0 rfl rfl) h0
  obtain ⟨a1, rfl, rfl, rfl, w1⟩ := open_int Try.underlying3 (hval 1 3 v1 rfl rfl) h1
  obtain ⟨a2, rfl, rfl, rfl, w2⟩ := open_int Try.underlying22 (hval 2 22 v2 rfl rfl) h2
  obtain ⟨a3, rfl, rfl, rfl, w3⟩ := open_int Try.underlying3 (hval 3 3 v3 rfl rfl) h3
  clear hA0 hval0
  simp only [List.append_nil] at hW'
  refine (walk a0 a1 a2 a3 w0 w1 w2 w3 W).mono fun e W' ⟨he, hg⟩ => ?_
  subst he
  exact ⟨_, rfl, post_of_same (pa := []) (pv := []) hW' (fun _ _ _ => (trodAll_cons_mk (shut_bool Try.underlying4 _) trodAll_mk0)) (fun sp _ => (trodAll_cons_mk (shut_int Try.underlying3 w0) (trodAll_cons_mk (shut_int Try.underlying3 w1) (trodAll_cons_mk (shut_int Try.underlying22 w2) (trodAll_cons_mk (shut_int Try.underlying3 w3) trodAll_mk0))))) (fun _ _ => rfl) rfl
    (hg.frame _) hg.2.1 (ok_one (by kernel_rfl) rfl (okWide_bool_mk Try.underlying4 _))⟩

theorem over : Rows.headerBackRow.holds Try.pinned (OpenSpec.ofChange Rows.headerBackSpec) :=
  OpenClaim.holds_of_wide 4 Try.f4 rfl rfl rfl rfl rfl rfl rfl ⟨rfl, rfl, rfl, rfl, rfl⟩ rfl rfl rfl rfl rfl (by kernel_rfl) Try.func4 (by kernel_rfl)
    (of_decide_eq_true (by kernel_rfl)) (by unfold Func.isWrapper; first | (rw [if_pos (by decide +kernel)]; kernel_rfl) | (rw [if_neg (by decide +kernel)]; exact ⟨rfl, rfl⟩))
    (fun os started H enc _ => lifted os started H enc)

theorem proved : Rows.HeaderBackSaid :=
  over
#print axioms proved
end Go.Proofs.Ythgobelfijnfeaa.headerBack
