/-
  What the laws ask of every device first (awake). No conditions.
-/
import Derived.Test.YtjicfjnkammmcaaNew
namespace Go.Proofs.Ytjicfjnkammmcaa
open Go.RowKit Go.Flo

/-- The states of awake. -/
def aw0 : St := ofS 16 fun _ => 0
def aw1 : St := storeS aw0 0 7
def aw2 : St := storeS aw1 8 9
def aw3 : St := flushS aw2 0
def aw4 : St := fenceS aw3
def aw5 : St := crashS aw4 fun _ => 0

theorem aw_e1 : ans (stepS aw0).off (hasB aw0.n 0) = 0 := by kernel_rfl
theorem aw_e2 : ans (stepS aw1).off (hasB aw1.n 8) = 0 := by kernel_rfl
theorem aw_e3 : ans (stepS aw2).off (hasB aw2.n 0) = 0 := by kernel_rfl
theorem aw_e4 : ans (stepS aw3).off true = 0 := by kernel_rfl
theorem aw_e5 : ans aw5.off (hasB aw5.n 0) = 0 := by kernel_rfl
theorem aw_e6 : ans aw5.off (hasB aw5.n 8) = 0 := by kernel_rfl
theorem aw_l5 : loadV aw5 0 = 7 := by kernel_rfl
theorem aw_l6 : loadV aw5 8 = 0 := by kernel_rfl
theorem aw_s0 : 0 ≤ aw0.steps ∧ aw0.steps < 1000000 := by decide
theorem aw_s1 : 0 ≤ aw1.steps ∧ aw1.steps < 1000000 := by decide
theorem aw_s2 : 0 ≤ aw2.steps ∧ aw2.steps < 1000000 := by decide
theorem aw_s3 : 0 ≤ aw3.steps ∧ aw3.steps < 1000000 := by decide

theorem Pk.nil (w : World) (own : List Nat) : Pk w own none 0 0 (fun _ => 0) := ⟨by omega, by omega, fun _ _ => rfl, fun h => absurd h (by omega)⟩

set_option maxHeartbeats 1000000 in
theorem awake_any (w : World) : Calls Try.prog 15 #[] w fun e w' => e = .returned (.bool true) ∧ Keep [] w w' := by
  have h0 : Calls Try.prog 11 #[.int .i64 16] w (DevPost aw0 w) := new_any w 16
  go_enter Try.func15, Try.ntmps15
  go_wp2_with fail
  (with_reducible refine h0.mono ?_)
  rintro e w0 ⟨L, rfl, D0, hf, K0⟩
  have h1 : Calls Try.prog 21 #[.pointer (some ⟨L.d, 0, none⟩), .int .i64 0, .int .u64 7] w0 (Did L aw1 w0 (.int .i64 0)) := by
    have := store_any w0 L aw0 D0 0 7 aw_s0.1 aw_s0.2
    rw [aw_e1] at this
    exact this
  clear h0
  go_wp2_with fail
  (with_reducible refine h1.mono ?_)
  rintro e w1 ⟨rfl, D1, K1⟩
  have h2 : Calls Try.prog 21 #[.pointer (some ⟨L.d, 0, none⟩), .int .i64 8, .int .u64 9] w1 (Did L aw2 w1 (.int .i64 0)) := by
    have := store_any w1 L aw1 D1 8 9 aw_s1.1 aw_s1.2
    rw [aw_e2] at this
    exact this
  clear h1 D0
  go_wp2_with fail
  (with_reducible refine h2.mono ?_)
  rintro e w2 ⟨rfl, D2, K2⟩
  have h3 : Calls Try.prog 22 #[.pointer (some ⟨L.d, 0, none⟩), .int .i64 0] w2 (Did L aw3 w2 (.int .i64 0)) := by
    have := flush_any w2 L aw2 D2 0 aw_s2.1 aw_s2.2
    rw [aw_e3] at this
    exact this
  clear h2 D1
  go_wp2_with fail
  (with_reducible refine h3.mono ?_)
  rintro e w3 ⟨rfl, D3, K3⟩
  have h4 : Calls Try.prog 23 #[.pointer (some ⟨L.d, 0, none⟩)] w3 (Did L aw4 w3 (.int .i64 0)) := by
    have := fence_any w3 L aw3 D3 aw_s3.1 aw_s3.2
    rw [aw_e4] at this
    exact this
  clear h3 D2
  go_wp2_with fail
  (with_reducible refine h4.mono ?_)
  rintro e w4 ⟨rfl, D4, K4⟩
  have h5 := crash_any w4 L aw4 D4 none 0 0 (fun _ => 0) (Pk.nil _ _)
  clear h4 D3
  go_wp2_with fail
  (with_reducible refine h5.mono ?_)
  rintro e w5 ⟨rfl, D5, K5⟩
  have h6 : Calls Try.prog 20 #[.pointer (some ⟨L.d, 0, none⟩), .int .i64 0] w5 fun e w' => e = .returned (.tuple #[.int .u64 7, .int .i64 0]) ∧ w5 = w' := by
    have := load_any w5 L aw5 D5 0
    unfold LoadPost at this
    rw [aw_l5, aw_e5] at this
    exact this
  have h7 : Calls Try.prog 20 #[.pointer (some ⟨L.d, 0, none⟩), .int .i64 8] w5 fun e w' => e = .returned (.tuple #[.int .u64 0, .int .i64 0]) ∧ w5 = w' := by
    have := load_any w5 L aw5 D5 8
    unfold LoadPost at this
    rw [aw_l6, aw_e6] at this
    exact this
  clear h5 D4 D5
  go_wp2_with fail
  (with_reducible refine h6.mono ?_)
  rintro e w6 ⟨rfl, rfl⟩
  go_wp2_with fail
  (with_reducible refine h7.mono ?_)
  rintro e w7 ⟨rfl, rfl⟩
  go_wp2
  go_ret
  have KK : Keep L.own w0 w5 := (((K1.trans K2).trans K3).trans K4).trans K5
  exact ⟨rfl, K0.into KK hf⟩
end Go.Proofs.Ytjicfjnkammmcaa
