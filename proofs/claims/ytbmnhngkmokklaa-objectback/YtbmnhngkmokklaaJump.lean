/-
  What word.Ones and word.Lowest return, for every word (each goes round by a goto). No conditions.
-/
import Derived.Test.YtbmnhngkmokklaaTwin
import Derived.Test.YtbmnhngkmokklaaRound
namespace Go.Proofs.Ytbmnhngkmokklaa
open Go.RowKit Go.Bit Go.Flo

theorem pred_bits (y : Nat) (h : 0 < y) (hy : y < 18446744073709551616) : bits BinOp.and IntKind.u64 (y : Int) ((y : Int) - 1) = ((y &&& (y - 1) : Nat) : Int) := by
  have e : (y : Int) - 1 = ((y - 1 : Nat) : Int) := by omega
  rw [e, u64_and_nat _ _ hy (by omega)]

/-- What holds at the label of Ones: what is counted and what is left are the word's. -/
def OnesJ (x : Nat) (w : World) (a' : Act) (w' : World) : Prop :=
  w' = w ∧ ∃ (y c : Nat) (u4 u5 u6 u7 u8 u9 u10 u11 u12 : Value), a' = { tmps := #[.int .u64 y, undef, .int .i64 0, .int .i64 c, u4, u5, u6, u7, u8, u9, u10, u11, u12], defers := [] } ∧ c + ones y 64 = ones x 64 ∧ y < 18446744073709551616

theorem ones_any (x : Nat) (hx : x < 18446744073709551616) (w : World) : Calls Try.prog 57 #[.int .u64 x] w fun e w' => e = .returned (.int .i64 (ones x 64 : Nat)) ∧ w = w' := by
  go_enter Try.func57, Try.ntmps57
  go_wp2_with fail
  refine wp_scope_round 0 (OnesJ x w) (fun a' _ => slotNat 0 a') rfl ?_ ?_
  · rintro a' w' ⟨rfl, y, c, u4, u5, u6, u7, u8, u9, u10, u11, u12, rfl, hs, hy⟩
    have hle := ones_le x 64
    by_cases hz : y = 0
    · subst hz
      go_wp2_with fail
      apply jump_ret
      go_ret
      rw [ones_zero] at hs
      exact ⟨ret_i64 (congrArg Nat.cast hs), rfl⟩
    · have hz' : (0 : Int) < y := by omega
      have hb := pred_bits y (by omega) hy
      have hp := ones_pred 64 y (by omega) hy
      have hd : y &&& (y - 1) < y := Nat.lt_of_le_of_lt Nat.and_le_right (by omega)
      generalize y &&& (y - 1) = z at hb hp hd
      go_wp2_with fail
      go_step3
      apply jump_goto
      refine ⟨⟨rfl, z, c + 1, _, _, _, _, _, _, _, _, _, rfl, by omega, by omega⟩, ?_⟩
      simpa [slotNat] using hd
  · intro hfirst
    go_wp2_with fail
    go_step3
    rename_i hK
    exact hK _ _ (hfirst _ _ ⟨rfl, x, 0, _, _, _, _, _, _, _, _, _, rfl, by omega, hx⟩)

/-- What holds at the label of Lowest: no bit below is 1. -/
def LowJ (x : Nat) (w : World) (a' : Act) (w' : World) : Prop :=
  w' = w ∧ ∃ (k : Nat) (u4 u5 u6 u7 u8 u9 u10 u11 u12 u13 u14 u15 : Value), a' = { tmps := #[.int .u64 x, undef, .int .i64 0, .int .i64 k, u4, u5, u6, u7, u8, u9, u10, u11, u12, u13, u14, u15], defers := [] } ∧ lowFrom x k (64 - k) = low x ∧ k ≤ 64

end Go.Proofs.Ytbmnhngkmokklaa
