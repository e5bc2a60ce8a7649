/-
  Proved: NvmNew returns true for every input, and leaves its arguments as they were. No conditions.
-/
import Derived.Test.YtjicfjnkammmcaaRows
import Derived.WalkKit
import Derived.ProofKit
import Derived.OpenShut
import Derived.Test.YtjicfjnkammmcaaAwake
import Derived.Test.YtjicfjnkammmcaaNil
import Derived.ShutString
import Derived.ChangeOld
import Derived.Below
namespace Go.Proofs.Ytjicfjnkammmcaa.nvmNew
open Go.ChangeShapes Go.WideShapes Go.ChangeAt Go.RowKit Go.Flo
open Go.ChangeMaps (open_string shut_string)
set_option linter.unusedVariables false

theorem own : ownKnob Try.prog.godebug = none := by kernel_rfl
theorem laidOut : laidOutB Try.prog = true := by kernel_rfl

/-- WHAT THE WALK IS TOLD OF A SLICE OF INTEGERS THAT CAME IN: it is nil; or it leads to a row of 'cap' cells, the numbers 'zs' (the first 'len' are its elements, the rest its spare room), each fitting its kind. -/
def IsRow (k : IntKind) (w : World) (a : Option Addr) (len cap : Nat) (zs : List Int) : Prop :=
  (a = none ∧ len = 0 ∧ cap = 0 ∧ zs = []) ∨
  ∃ x, a = some x ∧ len ≤ cap ∧ cap ≤ maxLen ∧ zs.length = cap ∧ (∀ i, i < zs.length → w.cell? (x.add i) = some (.int k (zs.getD i 0))) ∧ ∀ n ∈ zs, (Lit.int k n).wf = true

theorem walk (a0 : Int) (a1 : Int) (a2 : Int) (a3 : Option Addr) (len3 cap3 : Nat) (z3 : List Int) (w : World) (w0 : (Lit.int .i64 a0).wf = true) (w1 : (Lit.int .i64 a1).wf = true) (w2 : (Lit.int .u64 a2).wf = true) (w3 : IsRow .u8 w a3 len3 cap3 z3) :
    Calls Try.prog 5 #[.int .i64 a0, .int .i64 a1, .int .u64 a2, .slice a3 len3 cap3] w fun e w' => e = .returned (.bool true) ∧ Below w.heap.size w w' := by
  go_enter Try.func5, Try.ntmps5
  go_wp2_with fail
  (with_reducible refine (nil_fuse w a0).mono ?_)
  rintro e w' ⟨rfl, rfl⟩
  go_wp2_with fail
  (with_reducible refine (nil_crash w a3 len3 cap3).mono ?_)
  rintro e w' ⟨rfl, rfl⟩
  go_wp2_with fail
  (with_reducible refine (nil_load w a1).mono ?_)
  rintro e w' ⟨rfl, rfl⟩
  go_wp2_with fail
  (with_reducible refine (nil_store w a1 a2).mono ?_)
  rintro e w' ⟨rfl, rfl⟩
  go_wp2_with fail
  (with_reducible refine (nil_flush w a1).mono ?_)
  rintro e w' ⟨rfl, rfl⟩
  go_wp2_with fail
  (with_reducible refine (nil_fence w).mono ?_)
  rintro e w' ⟨rfl, rfl⟩
  go_wp2_with fail
  (with_reducible refine (nil_len w).mono ?_)
  rintro e w' ⟨rfl, rfl⟩
  go_wp2_with fail
  (with_reducible refine (nil_evict w a1).mono ?_)
  rintro e w' ⟨rfl, rfl⟩
  go_wp2_with fail
  (with_reducible refine (nil_steps w).mono ?_)
  rintro e w' ⟨rfl, rfl⟩
  go_wp2_with fail
  (with_reducible refine (nil_down w).mono ?_)
  rintro e w' ⟨rfl, rfl⟩
  go_wp2_with fail
  (with_reducible refine (nil_copy w).mono ?_)
  rintro e w' ⟨rfl, rfl⟩
  go_wp2_with fail
  (with_reducible refine (nil_words w).mono ?_)
  rintro e w' ⟨rfl, rfl⟩
  go_wp2_with fail
  (with_reducible refine (new_any w a0).mono ?_)
  rintro e w1 ⟨L, rfl, hD, hf, hK⟩
  have hl := len_any w1 L _ hD
  change Calls Try.prog 24 _ w1 fun e w' => e = .returned (.int .i64 (newN a0 : Nat)) ∧ w1 = w' at hl
  have hN : ((newN a0 : Nat) : Int) = min (max a0 0) 65536 := by unfold newN; omega
  have hN2 : newN a0 ≤ 65536 := by unfold newN; omega
  have HN := Lib.hid hN
  clear hN
  have hw := words_any w1 L _ hD
  change Calls Try.prog 28 _ w1 (RowPost 28 (newN a0) _ w1) at hw
  generalize newN a0 = M at *
  have hN := HN.out
  clear HN
  by_cases c1 : 65536 < a0
  · obtain rfl : M = 65536 := by omega
    change Calls Try.prog 24 _ w1 fun e w' => e = .returned (.int .i64 65536) ∧ w1 = w' at hl
    clear hN
    go_wp2_with fail
    (with_reducible refine hl.mono ?_)
    rintro e w' ⟨rfl, rfl⟩
    go_wp2_with fail
    (with_reducible refine hw.mono ?_)
    rintro e w2 ⟨g, cap, rfl, hR, hg, hK2⟩
    have hl2 := len_any w2 L _ (hD.keep (own := []) hK2 (by simp))
    change Calls Try.prog 24 _ w2 fun e w' => e = .returned (.int .i64 65536) ∧ w2 = w' at hl2
    clear hl hw hR hD
    go_wp2_with fail
    (with_reducible refine hl2.mono ?_)
    rintro e w' ⟨rfl, rfl⟩
    go_wp2_with fail
    (with_reducible refine (awake_any w2).mono ?_)
    rintro e w3 ⟨rfl, hK3⟩
    go_wp2
    go_ret
    exact ⟨rfl, ((hK.trans hK2).trans hK3).below (Nat.le_refl _) (by simp)⟩
  · by_cases c2 : a0 ≤ 0
    · obtain rfl : M = 0 := by omega
      change Calls Try.prog 24 _ w1 fun e w' => e = .returned (.int .i64 0) ∧ w1 = w' at hl
      have c3 : a0 ≤ 65536 := by omega
      clear hN
      go_wp2_with fail
      (with_reducible refine hl.mono ?_)
      rintro e w' ⟨rfl, rfl⟩
      go_wp2_with fail
      (with_reducible refine hw.mono ?_)
      rintro e w2 ⟨g, cap, rfl, hR, hg, hK2⟩
      have hl2 := len_any w2 L _ (hD.keep (own := []) hK2 (by simp))
      change Calls Try.prog 24 _ w2 fun e w' => e = .returned (.int .i64 0) ∧ w2 = w' at hl2
      clear hl hw hR hD
      go_wp2_with fail
      (with_reducible refine hl2.mono ?_)
      rintro e w' ⟨rfl, rfl⟩
      go_wp2_with fail
      (with_reducible refine (awake_any w2).mono ?_)
      rintro e w3 ⟨rfl, hK3⟩
      go_wp2
      go_ret
      exact ⟨rfl, ((hK.trans hK2).trans hK3).below (Nat.le_refl _) (by simp)⟩
    · obtain rfl : a0 = (M : Int) := by omega
      clear hN
      go_wp2_with fail
      (with_reducible refine hl.mono ?_)
      rintro e w' ⟨rfl, rfl⟩
      go_wp2_with fail
      (with_reducible refine hw.mono ?_)
      rintro e w2 ⟨g, cap, rfl, hR, hg, hK2⟩
      have hl2 := len_any w2 L _ (hD.keep (own := []) hK2 (by simp))
      change Calls Try.prog 24 _ w2 fun e w' => e = .returned (.int .i64 M) ∧ w2 = w' at hl2
      clear hl hw hR hD
      go_wp2_with fail
      (with_reducible refine hl2.mono ?_)
      rintro e w' ⟨rfl, rfl⟩
      go_wp2_with fail
      (with_reducible refine (awake_any w2).mono ?_)
      rintro e w3 ⟨rfl, hK3⟩
      go_wp2
      go_ret
      exact ⟨rfl, ((hK.trans hK2).trans hK3).below (Nat.le_refl _) (by simp)⟩

set_option maxRecDepth 100000 in
theorem lifted (os : Os) (started : os.Started) (H : Type) (enc : TypeId × Value → H) :
    ReturnsInHanded {} Try.checked os 5 .any (Rows.nvmNewSpec.pre6 enc Try.prog Try.f5 Rows.nvmNewRow.domain false) (Rows.nvmNewSpec.post enc Try.prog Try.f5 false true false false) := by
  refine returnsInHanded_of_change (C := Try.checked) own started (by kernel_rfl) Try.func5
    (ChangeSpec.witness6 (enc := enc) (C := Try.checked) false ⟨#[], #[.int .i64 0, .int .i64 0, .int .u64 0, .slice none 0 0], []⟩ 8 (by kernel_rfl) (by kernel_rfl) (by kernel_rfl) (by kernel_rfl)) ?_
  intro W base args ds gs before hval0 hW hcnd _
  have hval : ∀ (j : Nat) t v, Try.f5.params[j]? = some t → args[j]? = some v → Value.okWide Try.prog W .any base t v := hval0
  have hW' := hW
  obtain ⟨p, q, hA0, hV, rfl, hfz, hnd⟩ := hW
  have hA : DataW.TrodAll enc Try.prog W 0 (fun _ => true) true Try.f5.params.toList args.toList ds p := hA0
  rw [Try.params5] at hA hval
  obtain ⟨v0, vs0, d0, ds0, p0, q0, hargs, rfl, rfl, h0, r0⟩ := trodAll_cons hA
  obtain ⟨v1, vs1, d1, ds1, p1, q1, rfl, rfl, rfl, h1, r1⟩ := trodAll_cons r0
  obtain ⟨v2, vs2, d2, ds2, p2, q2, rfl, rfl, rfl, h2, r2⟩ := trodAll_cons r1
  obtain ⟨v3, vs3, d3, ds3, p3, q3, rfl, rfl, rfl, h3, r3⟩ := trodAll_cons r2
  obtain ⟨rfl, rfl, rfl⟩ := trodAll_nil r3
  obtain rfl : args = #[v0, v1, v2, v3] := by cases args; simp_all
  obtain ⟨rfl, rfl⟩ := trodVars_none hV
  obtain ⟨a0, rfl, rfl, rfl, w0⟩ := open_int Try.underlying3 (hval 0 3 v0 rfl rfl) h0
  obtain ⟨a1, rfl, rfl, rfl, w1⟩ := open_int Try.underlying3 (hval 1 3 v1 rfl rfl) h1
  obtain ⟨a2, rfl, rfl, rfl, w2⟩ := open_int Try.underlying28 (hval 2 28 v2 rfl rfl) h2
  obtain ⟨a3, len3, cap3, rfl⟩ := okWide_slice Try.underlying29 (hval 3 29 v3 rfl rfl)
  have k3 := h3
  have lt3 : ∀ x ∈ p3, x.block < W.heap.size := by obtain ⟨m, hm⟩ := k3; exact DataW.trod_lt m _ _ _ hm
  obtain ⟨z3, w3⟩ : ∃ zs, IsRow .u8 W a3 len3 cap3 zs := by
    obtain ⟨fuel, hf⟩ := h3
    rcases open_ints Try.underlying29 Try.underlying5 (by kernel_rfl) hf with ⟨hcs, _⟩ | ⟨x, l, c, zs, hcs, _, hl, hm, hz, _, hcell, hwz⟩
    · simp [Value.cells] at hcs
      obtain ⟨rfl, rfl, rfl⟩ := hcs
      exact ⟨[], .inl ⟨rfl, rfl, rfl, rfl⟩⟩
    · simp [Value.cells] at hcs
      obtain ⟨rfl, rfl, rfl⟩ := hcs
      exact ⟨zs, .inr ⟨_, rfl, hl, hm, by simpa using hz, hcell, hwz⟩⟩
  clear hA0 hval0
  refine (walk a0 a1 a2 a3 len3 cap3 z3 W w0 w1 w2 w3).mono fun e W' ⟨he, bel⟩ => ?_
  subst he
  exact ⟨_, rfl, _, _, _, [], _, [], hW', trodAll_mk1 (shut_bool Try.underlying4 _), (trodAll_cons_mk (shut_int Try.underlying3 w0) (trodAll_cons_mk (shut_int Try.underlying3 w1) (trodAll_cons_mk (shut_int Try.underlying28 w2) (trodAll_cons_mk (Below.trod laidOut (by kernel_rfl) (of_decide_eq_true (by kernel_rfl)) k3 bel lt3) trodAll_mk0)))), rfl, bel.frame _, fun h => by cases h⟩

theorem over : Rows.nvmNewRow.holds Try.pinned (OpenSpec.ofChange Rows.nvmNewSpec) :=
  OpenClaim.holds_of_wide 5 Try.f5 rfl rfl rfl rfl rfl rfl rfl ⟨rfl, rfl, rfl, rfl, rfl⟩ rfl rfl rfl rfl rfl (by kernel_rfl) Try.func5 (by kernel_rfl)
    (of_decide_eq_true (by kernel_rfl)) (by unfold Func.isWrapper; first | (rw [if_pos (by decide +kernel)]; kernel_rfl) | (rw [if_neg (by decide +kernel)]; exact ⟨rfl, rfl⟩))
    (fun os started H enc _ => lifted os started H enc)

theorem proved : Rows.NvmNewSaid := over
#print axioms proved
end Go.Proofs.Ytjicfjnkammmcaa.nvmNew
