/-
  What the laws ask of every device first (awake). No conditions.
-/
import Derived.Test.YtejhdmpobaffcaaNew
namespace Go.Proofs.Ytejhdmpobaffcaa
open Go.RowKit Go.Flo
set_option maxRecDepth 100000

/-- The states of awake. -/
def aw0 : St := ofS 16 fun _ => 0
def aw1 : St := storeS aw0 0 7
def aw2 : St := storeS aw1 8 9
def aw3 : St := flushS aw2 0
def aw4 : St := fenceS aw3
def aw5 : St := crashS aw4 fun _ => 0

theorem aw_e1 : ans (stepS aw0).off (hasB aw0.n 0) = 0 := by kernel_rfl
theorem aw_e2 : ans (stepS aw1).off (hasB aw1.n 8) = 0 := by kernel_rfl
theorem aw_e3 : ans (stepS aw2).off (hasB aw2.n 0) = 0 := by kernel_rfl
theorem aw_e4 : ans (stepS aw3).off true = 0 := by kernel_rfl
theorem aw_e5 : ans aw5.off (hasB aw5.n 0) = 0 := by kernel_rfl
theorem aw_e6 : ans aw5.off (hasB aw5.n 8) = 0 := by kernel_rfl
theorem aw_l5 : loadV aw5 0 = 7 := by kernel_rfl
theorem aw_l6 : loadV aw5 8 = 0 := by kernel_rfl
theorem aw_s0 : 0 ≤ aw0.steps ∧ aw0.steps < 1000000 := by decide
theorem aw_s1 : 0 ≤ aw1.steps ∧ aw1.steps < 1000000 := by decide
theorem aw_s2 : 0 ≤ aw2.steps ∧ aw2.steps < 1000000 := by decide
theorem aw_s3 : 0 ≤ aw3.steps ∧ aw3.steps < 1000000 := by decide

theorem Pk.nil (w : World) (own : List Nat) : Pk w own none 0 0 (fun _ => 0) := ⟨by omega, by omega, fun _ _ => rfl, fun h => absurd h (by omega)⟩

end Go.Proofs.Ytejhdmpobaffcaa
