/-
  What word.Ones and word.Lowest return, for every word (each goes round by a goto). No conditions.
-/
import Derived.Test.YtfihaaciaobolaaTwin
import Derived.Test.YtfihaaciaobolaaRound
namespace Go.Proofs.Ytfihaaciaobolaa
open Go.RowKit Go.Bit Go.Flo

theorem pred_bits (y : Nat) (h : 0 < y) (hy : y < 18446744073709551616) : bits BinOp.and IntKind.u64 (y : Int) ((y : Int) - 1) = ((y &&& (y - 1) : Nat) : Int) := by
  have e : (y : Int) - 1 = ((y - 1 : Nat) : Int) := by omega
  rw [e, u64_and_nat _ _ hy (by omega)]

/-- What holds at the label of Ones: what is counted and what is left are the word's. -/
def OnesJ (x : Nat) (w : World) (a' : Act) (w' : World) : Prop :=
  w' = w ∧ ∃ (y c : Nat) (u4 u5 u6 u7 u8 u9 u10 u11 u12 : Value), a' = { tmps := #[.int .u64 y, undef, .int .i64 0, .int .i64 c, u4, u5, u6, u7, u8, u9, u10, u11, u12], defers := [] } ∧ c + ones y 64 = ones x 64 ∧ y < 18446744073709551616

/-- What holds at the label of Lowest: no bit below is 1. -/
def LowJ (x : Nat) (w : World) (a' : Act) (w' : World) : Prop :=
  w' = w ∧ ∃ (k : Nat) (u4 u5 u6 u7 u8 u9 u10 u11 u12 u13 u14 u15 : Value), a' = { tmps := #[.int .u64 x, undef, .int .i64 0, .int .i64 k, u4, u5, u6, u7, u8, u9, u10, u11, u12, u13, u14, u15], defers := [] } ∧ lowFrom x k (64 - k) = low x ∧ k ≤ 64

theorem low_any (x : Nat) (hx : x < 18446744073709551616) (w : World) : Calls Try.prog 63 #[.int .u64 x] w fun e w' => e = .returned (.int .i64 (low x : Nat)) ∧ w = w' := by
  go_enter Try.func63, Try.ntmps63
  go_wp2_with fail
  refine wp_scope_round 0 (LowJ x w) (fun a' _ => 64 - slotNat 3 a') rfl ?_ ?_
  · rintro a' w' ⟨rfl, k, u4, u5, u6, u7, u8, u9, u10, u11, u12, u13, u14, u15, rfl, hl, hk⟩
    have HL := Lib.hid hl
    clear hl
    by_cases hz : k = 64
    · subst hz
      go_wp2_with fail
      apply jump_ret
      go_ret
      exact ⟨ret_i64 (congrArg Nat.cast HL.out), rfl⟩
    · have hlt : (k : Int) < 64 := by omega
      by_cases c : x / 2 ^ k % 2 = 1
      · have t := (bit_test x k hx).trans (decide_eq_true c)
        have hr := low_here x k (by omega) c
        clear c
        go_wp2_with fail
        apply jump_ret
        go_ret
        exact ⟨ret_i64 (congrArg Nat.cast (hr.symm.trans HL.out)), rfl⟩
      · have t := (bit_test x k hx).trans (decide_eq_false c)
        have hr := low_next x k (by omega) c
        clear c
        go_wp2_with fail
        go_step3
        apply jump_goto
        refine ⟨⟨rfl, k + 1, _, _, _, _, _, _, _, _, _, _, _, _, rfl, hr.symm.trans HL.out, by omega⟩, ?_⟩
        simp [slotNat]
        omega
  · intro hfirst
    go_wp2_with fail
    go_step3
    rename_i hK
    exact hK _ _ (hfirst _ _ ⟨rfl, 0, _, _, _, _, _, _, _, _, _, _, _, _, rfl, rfl, by omega⟩)

end Go.Proofs.Ytfihaaciaobolaa
