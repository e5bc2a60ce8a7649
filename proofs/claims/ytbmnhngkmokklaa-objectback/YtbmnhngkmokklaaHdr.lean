/-
  What each function of package header (and its twin of the statements' own package) returns, for every input. No conditions.
-/
import Derived.Test.YtbmnhngkmokklaaJump
import Derived.Test.YtbmnhngkmokklaaHdm
namespace Go.Proofs.Ytbmnhngkmokklaa
open Go.RowKit Go.Bit Go.Flo

theorem toInt_small (x : Nat) (hx : x < 9223372036854775808) (w : World) : Calls Try.prog 50 #[.int .u64 x] w fun e w' => e = .returned (.int .i64 x) ∧ w = w' :=
  (toInt_any x w).mono fun _ _ ⟨a, b⟩ => ⟨a.trans (ret_i64 (by unfold wrap64; omega)), b⟩

theorem int_small (x : Nat) (hx : x < 9223372036854775808) (w : World) : Calls Try.prog 48 #[.int .i64 x] w fun e w' => e = .returned (.int .u64 x) ∧ w = w' :=
  (int_any x w).mono fun _ _ ⟨a, b⟩ => ⟨a.trans (ret_u64 (by rw [IntKind.wrap_u64]; omega)), b⟩

theorem get_lit (x f n : Nat) (F N : Int) (eF : (f : Int) = F) (eN : (n : Int) = N) (hx : x < 18446744073709551616) (h : f + n ≤ 64) (w : World) : Calls Try.prog 40 #[.int .u64 x, .int .i64 F, .int .i64 N] w fun e w' => e = .returned (.int .u64 (getN x f n)) ∧ Dr w w' := by
  rw [← eF, ← eN]
  exact get_any x f n hx h w

theorem number_lit (x f n : Nat) (F N : Int) (eF : (f : Int) = F) (eN : (n : Int) = N) (hx : x < 18446744073709551616) (h : f + n ≤ 64) (hn : n ≤ 32) (w : World) : Calls Try.prog 39 #[.int .u64 x, .int .i64 F, .int .i64 N] w fun e w' => e = .returned (.int .i64 (getN x f n : Nat)) ∧ Dr w w' := by
  have h1 := get_lit x f n F N eF eN hx h
  have hl := getN_lt x f n
  have hp : (2 : Nat) ^ n ≤ 2 ^ 32 := Nat.pow_le_pow_right (by decide) hn
  have h4 : (2 : Nat) ^ 32 = 4294967296 := by decide
  generalize getN x f n = g at h1 hl
  have h2 := toInt_small g (by omega)
  clear hl hp h4 eF eN
  go_enter Try.func39, Try.ntmps39
  go_wp2_with fail
  (with_reducible refine (h1 _).mono ?_)
  rintro e w' ⟨rfl, d⟩
  go_wp2_with fail
  (with_reducible refine (h2 _).mono ?_)
  rintro e w' ⟨rfl, rfl⟩
  go_wp2
  go_ret
  exact ⟨rfl, d⟩

theorem words_any (m : Int) (w : World) : Calls Try.prog 46 #[.int .i64 m] w fun e w' => e = .returned (.bool (decide (0 < m ∧ m ≤ 16))) ∧ w = w' := by
  by_cases c1 : 0 < m
  · by_cases c2 : m ≤ 16
    · rw [decide_eq_true (⟨c1, c2⟩ : 0 < m ∧ m ≤ 16)]
      go_enter Try.func46, Try.ntmps46
      go_wp2
      go_ret
      exact ⟨rfl, rfl⟩
    · rw [decide_eq_false (fun h => c2 h.2 : ¬ (0 < m ∧ m ≤ 16))]
      go_enter Try.func46, Try.ntmps46
      go_wp2
      go_ret
      exact ⟨rfl, rfl⟩
  · rw [decide_eq_false (fun h => c1 h.1 : ¬ (0 < m ∧ m ≤ 16))]
    go_enter Try.func46, Try.ntmps46
    go_wp2
    go_ret
    exact ⟨rfl, rfl⟩

theorem kind_any (k : Int) (w : World) : Calls Try.prog 45 #[.int .i64 k] w fun e w' => e = .returned (.bool (decide (0 ≤ k ∧ k < 16))) ∧ w = w' := by
  by_cases c1 : 0 ≤ k
  · by_cases c2 : k < 16
    · rw [decide_eq_true (⟨c1, c2⟩ : 0 ≤ k ∧ k < 16)]
      go_enter Try.func45, Try.ntmps45
      go_wp2
      go_ret
      exact ⟨rfl, rfl⟩
    · rw [decide_eq_false (fun h => c2 h.2 : ¬ (0 ≤ k ∧ k < 16))]
      go_enter Try.func45, Try.ntmps45
      go_wp2
      go_ret
      exact ⟨rfl, rfl⟩
  · rw [decide_eq_false (fun h => c1 h.1 : ¬ (0 ≤ k ∧ k < 16))]
    go_enter Try.func45, Try.ntmps45
    go_wp2
    go_ret
    exact ⟨rfl, rfl⟩

theorem check_any (x : Nat) (hx : x < 18446744073709551616) (w : World) : Calls Try.prog 49 #[.int .u64 x] w fun e w' => e = .returned (.int .u64 (hck x : Nat)) ∧ Dr w w' := by
  have h1 := get_lit x 0 56 0 56 rfl rfl hx (by decide)
  have h2 := ones_any (getN x 0 56) (getN_lt64 x 0 56 hx)
  have hl := ones_le (getN x 0 56) 64
  have e : hck x = ones (getN x 0 56) 64 + 1 := rfl
  generalize hck x = q at e
  generalize getN x 0 56 = g at h1 h2 hl e
  generalize ones g 64 = o at h2 hl e
  subst e
  have h3 := int_small o (by omega)
  go_enter Try.func49, Try.ntmps49
  go_wp2_with fail
  (with_reducible refine (h1 _).mono ?_)
  rintro e w' ⟨rfl, d⟩
  go_wp2_with fail
  (with_reducible refine (h2 _).mono ?_)
  rintro e w' ⟨rfl, rfl⟩
  go_wp2_with fail
  (with_reducible refine (h3 _).mono ?_)
  rintro e w' ⟨rfl, rfl⟩
  go_wp2
  go_ret
  exact ⟨ret_u64 (by omega), d⟩

theorem rcheck_any (x : Nat) (hx : x < 18446744073709551616) (w : World) : Calls Try.prog 32 #[.int .u64 x] w fun e w' => e = .returned (.int .u64 (hck x : Nat)) ∧ w = w' := by
  have h1 : bits BinOp.and IntKind.u64 (x : Int) 72057594037927935 = ((getN x 0 56 : Nat) : Int) := by
    have := and_mask x 56 hx (by decide)
    rw [get_b]
    exact this
  have h2 := rones_any (getN x 0 56) (getN_lt64 x 0 56 hx)
  have hl := ones_le (getN x 0 56) 64
  have e : hck x = ones (getN x 0 56) 64 + 1 := rfl
  generalize hck x = q at e
  generalize getN x 0 56 = g at h1 h2 hl e
  generalize ones g 64 = o at h2 hl e
  subst e
  go_enter Try.func32, Try.ntmps32
  go_wp2_with fail
  (with_reducible refine (h2 _).mono ?_)
  rintro e w' ⟨rfl, rfl⟩
  go_wp2
  go_ret
  exact ⟨ret_u64 (by omega), rfl⟩
end Go.Proofs.Ytbmnhngkmokklaa
