/-
  Proved: WordNumbers returns true for every input, and leaves its arguments as they were. No conditions.
-/
import Derived.Test.YtckaboomeicofaaRows
import Derived.WalkKit
import Derived.ProofKit
import Derived.OpenShut
import Derived.Test.YtckaboomeicofaaJump
import Derived.ShutString
namespace Go.Proofs.Ytckaboomeicofaa.wordNumbers
open Go.ChangeShapes Go.WideShapes Go.ChangeAt Go.RowKit Go.Flo Go.Bit
open Go.ChangeMaps (open_string shut_string)
set_option linter.unusedVariables false

theorem own : ownKnob Try.prog.godebug = none := by kernel_rfl


/-- What holds at the head of every round of the law's loop: the bits from k on are put together. -/
def NumRel (u : Nat) (w : World) (v i : Value) (wr : World) : Prop :=
  ∃ (k : Nat) (m : Int), k ≤ 64 ∧ m + 1 = k ∧ v = .int .u64 (getN u k (64 - k) : Nat) ∧ i = .int .i64 m ∧ Dr w wr

theorem num_step (u j : Nat) (hj : j < 64) : bits BinOp.or IntKind.u64 (IntKind.u64.wrap (((getN u (j + 1) (64 - (j + 1)) : Nat) : Int) * 2)) ((getN u j 1 : Nat) : Int) = ((getN u j (64 - j) : Nat) : Int) := by
  obtain ⟨M, hM⟩ : ∃ M, 64 - (j + 1) = M := ⟨_, rfl⟩
  have e : 64 - j = M + 1 := by omega
  have h1 := getN_step u j M
  have h2 := getN_lt u j (M + 1)
  have h3 := pow_le64 (M + 1) (by omega)
  have hb : getN u j 1 < 2 := getN_lt u j 1
  rw [hM, e, or_bit _ _ (by omega) hb, ← h1]
  rfl

set_option maxHeartbeats 1000000 in
theorem core (M : Int) (u : Nat) (B : Int) (hu : u < 18446744073709551616) (eU : IntKind.u64.wrap M = u) (eM : wrap64 (u : Int) = M)
    (hb : (B = 1 ∧ M < 0) ∨ (B = 0 ∧ ¬ M < 0))
    (h1 : ∀ w, Calls Try.prog 11 #[.int .u64 u, .int .i64 63, .int .i64 1] w fun e w' => e = .returned (.int .u64 B) ∧ Dr w w')
    (h2 : ∀ w, Calls Try.prog 16 #[.int .u64 18446744073709551615] w fun e w' => e = .returned (.int .i64 64) ∧ w = w')
    (w : World) :
    Calls Try.prog 10 #[.int .i64 M] w fun e w' => e = .returned (.bool true) ∧ Grown w w' := by
  have h0 : ∀ w, Calls Try.prog 20 #[.int .i64 M] w fun e w' => e = .returned (.int .u64 u) ∧ w = w' := fun w => by have h := int_any M w; rw [eU] at h; exact h
  have h3 : ∀ w, Calls Try.prog 21 #[.int .u64 u] w fun e w' => e = .returned (.int .i64 M) ∧ w = w' := fun w => by have h := toInt_any u w; rw [eM] at h; exact h
  have h4 : ∀ w, Calls Try.prog 20 #[.int .i64 (-1)] w fun e w' => e = .returned (.int .u64 18446744073709551615) ∧ w = w' := fun w => int_any (-1) w
  clear eU eM
  go_enter Try.func10, Try.ntmps10
  go_wp2_with fail
  (with_reducible refine (h0 _).mono ?_)
  rintro e w' ⟨rfl, rfl⟩
  go_wp2_with fail
  go_loopw [4, 5] (fun v i wr => NumRel u w v i wr) (fun _ i _ => (intOf i + 1).toNat)
  case atStart => exact ⟨64, _, by decide, by decide, by rw [Nat.sub_self, getN_zero]; rfl, rfl, Dr.refl _⟩
  case round =>
    obtain ⟨k, m, hk, hm, rfl, rfl, D⟩ := hrel
    by_cases hz : m = -1
    · subst hz
      have hk0 : k = 0 := by omega
      subst hk0
      rw [Nat.sub_zero, get_all u hu]
      go_wp2_with fail
      (with_reducible refine (h1 _).mono ?_)
      rintro e w' ⟨rfl, d⟩
      replace D := D.trans d
      clear d
      rcases hb with ⟨rfl, hb⟩ | ⟨rfl, hb⟩
      · have t : decide (M < 0) = true := decide_eq_true hb
        go_wp2_with fail
        (with_reducible refine (h3 _).mono ?_)
        rintro e w' ⟨rfl, rfl⟩
        go_wp2_with fail
        (with_reducible refine (h4 _).mono ?_)
        rintro e w' ⟨rfl, rfl⟩
        go_wp2_with fail
        (with_reducible refine (h2 _).mono ?_)
        rintro e w' ⟨rfl, rfl⟩
        go_wp2_with fail
        (with_reducible refine (awake_any _).mono ?_)
        rintro e w' ⟨rfl, d⟩
        go_wp2
        go_ret
        exact ⟨rfl, (D.trans d).grown⟩
      · have t : decide (M < 0) = false := decide_eq_false (by omega)
        go_wp2_with fail
        (with_reducible refine (h3 _).mono ?_)
        rintro e w' ⟨rfl, rfl⟩
        go_wp2_with fail
        (with_reducible refine (h4 _).mono ?_)
        rintro e w' ⟨rfl, rfl⟩
        go_wp2_with fail
        (with_reducible refine (h2 _).mono ?_)
        rintro e w' ⟨rfl, rfl⟩
        go_wp2_with fail
        (with_reducible refine (awake_any _).mono ?_)
        rintro e w' ⟨rfl, d⟩
        go_wp2
        go_ret
        exact ⟨rfl, (D.trans d).grown⟩
    · obtain ⟨j, rfl⟩ : ∃ j : Nat, m = j := ⟨m.toNat, by omega⟩
      have hk' : k = j + 1 := by omega
      subst hk'
      clear hm hz
      have hg : ∀ w, Calls Try.prog 11 #[.int .u64 u, .int .i64 j, .int .i64 1] w fun e w' => e = .returned (.int .u64 (getN u j 1)) ∧ Dr w w' := fun w => get_any u j 1 hu (by omega) w
      have hs := num_step u j (by omega)
      generalize getN u (j + 1) (64 - (j + 1)) = g at hs
      generalize getN u j 1 = c at hs hg
      go_wp2_with fail
      (with_reducible refine (hg _).mono ?_)
      rintro e w' ⟨rfl, d⟩
      go_wp2_with fail
      go_roundw
      case rel => exact ⟨j, _, by omega, by omega, rfl, rfl, D.trans d⟩
      case measure => simp [intOf]

theorem walk (a0 : Int) (w0 : (Lit.int .i64 a0).wf = true) (w : World) :
    Calls Try.prog 10 #[.int .i64 a0] w fun e w' => e = .returned (.bool true) ∧ Grown w w' := by
  have b0 := bounds_i64 w0
  obtain ⟨u, eu⟩ : ∃ u : Nat, a0 % 18446744073709551616 = u := ⟨(a0 % 18446744073709551616).toNat, by omega⟩
  have hu : u < 18446744073709551616 := by omega
  have hbit : getN u 63 1 = u / 9223372036854775808 % 2 := by rw [get_one]
  by_cases c : a0 < 0
  · have e : getN u 63 1 = 1 := by omega
    refine core a0 u 1 hu (by rw [IntKind.wrap_u64, eu]) (by unfold wrap64; omega) (Or.inl ⟨rfl, c⟩) (fun w => ?_) (fun w => ones_any 18446744073709551615 (by decide) w) w
    have h := get_any u 63 1 hu (by decide) w
    rw [e] at h
    exact h
  · have e : getN u 63 1 = 0 := by omega
    refine core a0 u 0 hu (by rw [IntKind.wrap_u64, eu]) (by unfold wrap64; omega) (Or.inr ⟨rfl, c⟩) (fun w => ?_) (fun w => ones_any 18446744073709551615 (by decide) w) w
    have h := get_any u 63 1 hu (by decide) w
    rw [e] at h
    exact h

set_option maxRecDepth 100000 in
theorem lifted (os : Os) (started : os.Started) (H : Type) (enc : TypeId × Value → H) :
    ReturnsInHanded {} Try.checked os 10 .any (Rows.wordNumbersSpec.pre6 enc Try.prog Try.f10 Rows.wordNumbersRow.domain false) (Rows.wordNumbersSpec.post enc Try.prog Try.f10 false true false false) := by
  refine returnsInHanded_of_change (C := Try.checked) own started (by kernel_rfl) Try.func10
    (ChangeSpec.witness6 (enc := enc) (C := Try.checked) false ⟨#[], #[.int .i64 0], []⟩ 8 (by kernel_rfl) (by kernel_rfl) (by kernel_rfl) (by kernel_rfl)) ?_
  intro W base args ds gs before hval0 hW hcnd _
  have hval : ∀ (j : Nat) t v, Try.f10.params[j]? = some t → args[j]? = some v → Value.okWide Try.prog W .any base t v := hval0
  have hW' := hW
  obtain ⟨p, q, hA0, hV, rfl, hfz, hnd⟩ := hW
  have hA : DataW.TrodAll enc Try.prog W 0 (fun _ => true) true Try.f10.params.toList args.toList ds p := hA0
  rw [Try.params10] at hA hval
  obtain ⟨v0, vs0, d0, ds0, p0, q0, hargs, rfl, rfl, h0, r0⟩ := trodAll_cons hA
  obtain ⟨rfl, rfl, rfl⟩ := trodAll_nil r0
  obtain rfl : args = #[v0] := by cases args; simp_all
  obtain ⟨rfl, rfl⟩ := trodVars_none hV
  obtain ⟨a0, rfl, rfl, rfl, w0⟩ := open_int Try.underlying2 (hval 0 2 v0 rfl rfl) h0
  clear hA0 hval0
  simp only [List.append_nil] at hW'
  refine (walk a0 w0 W).mono fun e W' ⟨he, hg⟩ => ?_
  subst he
  exact ⟨_, rfl, post_of_same (pa := []) (pv := []) hW' (fun _ _ _ => (trodAll_cons_mk (shut_bool Try.underlying4 _) trodAll_mk0)) (fun sp _ => (trodAll_cons_mk (shut_int Try.underlying2 w0) trodAll_mk0)) (fun _ _ => rfl) rfl
    (hg.frame _) hg.2.1 (ok_one (by kernel_rfl) rfl (okWide_bool_mk Try.underlying4 _))⟩

theorem over : Rows.wordNumbersRow.holds Try.pinned (OpenSpec.ofChange Rows.wordNumbersSpec) :=
  OpenClaim.holds_of_wide 10 Try.f10 rfl rfl rfl rfl rfl rfl rfl ⟨rfl, rfl, rfl, rfl, rfl⟩ rfl rfl rfl rfl rfl (by kernel_rfl) Try.func10 (by kernel_rfl)
    (of_decide_eq_true (by kernel_rfl)) (by unfold Func.isWrapper; first | (rw [if_pos (by decide +kernel)]; kernel_rfl) | (rw [if_neg (by decide +kernel)]; exact ⟨rfl, rfl⟩))
    (fun os started H enc _ => lifted os started H enc)

theorem proved : Rows.WordNumbersSaid :=
  over
#print axioms proved
end Go.Proofs.Ytckaboomeicofaa.wordNumbers
