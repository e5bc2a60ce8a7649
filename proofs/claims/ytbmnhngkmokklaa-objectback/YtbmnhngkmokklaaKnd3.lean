/-
  Package kind: Parse, Zero, Fits. No conditions but what is in memory.
-/
import Derived.Test.YtbmnhngkmokklaaKnd2
namespace Go.Proofs.Ytbmnhngkmokklaa
open Go.RowKit Go.Flo Go.Bit
set_option maxRecDepth 100000

theorem toInt_nat (x : Nat) (hx : x ≤ 4096) (w : World) : Calls Try.prog 50 #[.int .u64 x] w fun e w' => e = .returned (.int .i64 x) ∧ w = w' :=
  (toInt_any x w).mono fun _ _ ⟨a, b⟩ => ⟨a.trans (ret_i64 (wrap64_small hx)), b⟩

end Go.Proofs.Ytbmnhngkmokklaa
