/-
  Fields of bits of whole numbers, how many bits are 1, and the lowest that is: definitions and laws in plain arithmetic. No program is named here. Each theorem bears its own conditions.
-/
import Derived.Laws.BitsAllLaws
namespace Go.Bit

def getN (w f n : Nat) : Nat := w / 2 ^ f % 2 ^ n
def setN (w f n v : Nat) : Nat := (w &&& (18446744073709551615 - (2 ^ n - 1) * 2 ^ f)) ||| (v % 2 ^ n * 2 ^ f)

theorem getN_bit (w f n i : Nat) : (getN w f n).testBit i = (decide (i < n) && w.testBit (f + i)) := by
  rw [getN, Nat.testBit_mod_two_pow, Nat.testBit_div_two_pow, Nat.add_comm]

theorem field_lt (f n : Nat) (h : f + n ≤ 64) (x : Nat) (hx : x < 2 ^ n) : x * 2 ^ f < 18446744073709551616 := by
  have h1 : x * 2 ^ f < 2 ^ n * 2 ^ f := Nat.mul_lt_mul_of_pos_right hx (Nat.two_pow_pos f)
  have h2 : 2 ^ n * 2 ^ f = 2 ^ (n + f) := (Nat.pow_add 2 n f).symm
  have h3 : 2 ^ (n + f) ≤ 2 ^ 64 := Nat.pow_le_pow_right (by decide) (by omega)
  have h4 : (2 : Nat) ^ 64 = 18446744073709551616 := by decide
  omega

theorem comp_bit (x i : Nat) (hx : x < 18446744073709551616) : (18446744073709551615 - x).testBit i = (decide (i < 64) && !x.testBit i) := by
  have h := Nat.testBit_two_pow_sub_succ (n := 64) hx i
  have e : (2 : Nat) ^ 64 - (x + 1) = 18446744073709551615 - x := by
    have h4 : (2 : Nat) ^ 64 = 18446744073709551616 := by decide
    omega
  rwa [e] at h

theorem hi_bit (w i : Nat) (hw : w < 18446744073709551616) (hi : 64 ≤ i) : w.testBit i = false := by
  refine Nat.testBit_lt_two_pow (Nat.lt_of_lt_of_le hw ?_)
  have h4 : (2 : Nat) ^ 64 = 18446744073709551616 := by decide
  rw [← h4]
  exact Nat.pow_le_pow_right (by decide) hi

theorem two_pow_pred_lt (n : Nat) : 2 ^ n - 1 < 2 ^ n := by
  have := Nat.two_pow_pos n
  omega

theorem setN_bit (w f n v i : Nat) (hw : w < 18446744073709551616) (h : f + n ≤ 64) :
    (setN w f n v).testBit i = if f ≤ i ∧ i < f + n then v.testBit (i - f) else w.testBit i := by
  have hf := field_lt f n h _ (two_pow_pred_lt n)
  rw [setN, Nat.testBit_or, Nat.testBit_and, comp_bit _ _ hf, Nat.testBit_mul_two_pow, Nat.testBit_mul_two_pow, Nat.testBit_two_pow_sub_one, Nat.testBit_mod_two_pow]
  by_cases h1 : f ≤ i
  · by_cases h2 : i < f + n
    · have h3 : i - f < n := by omega
      simp [h1, h2, h3]
    · have h3 : ¬ i - f < n := by omega
      by_cases h4 : i < 64
      · simp [h1, h2, h3, h4]
      · simp [h1, h2, h3, h4, hi_bit w i hw (by omega)]
  · have h4 : i < 64 := by omega
    simp [h1, h4]

theorem getN_lt (w f n : Nat) : getN w f n < 2 ^ n := Nat.mod_lt _ (Nat.two_pow_pos n)

theorem getN_lt64 (w f n : Nat) (hw : w < 18446744073709551616) : getN w f n < 18446744073709551616 :=
  Nat.lt_of_le_of_lt (Nat.le_trans (Nat.mod_le _ _) (Nat.div_le_self _ _)) hw

theorem and_lt64 (a b : Nat) (h : a < 18446744073709551616) : a &&& b < 18446744073709551616 :=
  Nat.lt_of_le_of_lt Nat.and_le_left h

theorem or_lt64 (a b : Nat) (h : a < 18446744073709551616) (k : b < 18446744073709551616) : a ||| b < 18446744073709551616 := by
  have h4 : (2 : Nat) ^ 64 = 18446744073709551616 := by decide
  rw [← h4] at h k ⊢
  exact Nat.or_lt_two_pow h k

theorem setN_lt (w f n v : Nat) (hw : w < 18446744073709551616) (h : f + n ≤ 64) : setN w f n v < 18446744073709551616 :=
  or_lt64 _ _ (and_lt64 _ _ hw) (field_lt f n h _ (Nat.mod_lt _ (Nat.two_pow_pos n)))

/-! ### bit by bit, as the twin does -/

theorem getN_zero (w f : Nat) : getN w f 0 = 0 := by simp [getN, Nat.mod_one]

theorem getN_step (w f m : Nat) : getN w (f + 1) m * 2 + w / 2 ^ f % 2 = getN w f (m + 1) := by
  have e : w / 2 ^ (f + 1) = w / 2 ^ f / 2 := by rw [Nat.pow_succ, Nat.div_div_eq_div_mul]
  rw [getN, getN, e, Nat.pow_succ, Nat.mul_comm (2 ^ m) 2, Nat.mod_mul, Nat.mul_comm 2 _, Nat.add_comm]

theorem setN_zero (w f v : Nat) (hw : w < 18446744073709551616) (h : f ≤ 64) : setN w f 0 v = w := by
  refine Nat.eq_of_testBit_eq fun i => ?_
  rw [setN_bit w f 0 v i hw (by omega), if_neg (by omega)]

theorem bit_shift (v i j : Nat) : (v / 2 ^ i % 2 * 2 ^ j).testBit j = v.testBit i := by
  rw [Nat.testBit_mul_two_pow, Nat.sub_self, Nat.testBit_zero, Nat.testBit_eq_decide_div_mod_eq]
  simp

theorem bit_shift' (x i j k : Nat) (h : i ≠ j) : (x / 2 ^ k % 2 * 2 ^ j).testBit i = false := by
  rw [Nat.testBit_mul_two_pow]
  by_cases c : j ≤ i
  · obtain ⟨d, hd⟩ : ∃ d, i - j = d + 1 := ⟨i - j - 1, by omega⟩
    rw [hd, Nat.testBit_succ]
    have : x / 2 ^ k % 2 / 2 = 0 := by omega
    rw [this]
    simp
  · simp [c]

theorem setN_step (w f i v : Nat) (hw : w < 18446744073709551616) (h : f + (i + 1) ≤ 64) :
    (setN w f i v &&& (18446744073709551615 - 2 ^ (f + i))) ||| (v / 2 ^ i % 2 * 2 ^ (f + i)) = setN w f (i + 1) v := by
  have hp : (2 : Nat) ^ (f + i) < 18446744073709551616 := by
    have h4 : (2 : Nat) ^ 64 = 18446744073709551616 := by decide
    rw [← h4]
    exact Nat.pow_lt_pow_right (by decide) (by omega)
  refine Nat.eq_of_testBit_eq fun j => ?_
  rw [setN_bit w f (i + 1) v j hw h, Nat.testBit_or, Nat.testBit_and, setN_bit w f i v j hw (by omega), comp_bit _ _ hp, Nat.testBit_two_pow]
  by_cases c : j = f + i
  · subst c
    rw [bit_shift]
    have e : f + i - f = i := by omega
    simp [e]
  · rw [bit_shift' _ _ _ _ c]
    have c' : ¬ f + i = j := fun e => c e.symm
    by_cases d : j < 64
    · by_cases c1 : f ≤ j ∧ j < f + i
      · have c2 : f ≤ j ∧ j < f + (i + 1) := by omega
        simp [c1, c2, c', d]
      · have c2 : ¬ (f ≤ j ∧ j < f + (i + 1)) := by omega
        simp [c1, c2, c', d]
    · have hh := hi_bit w j hw (by omega)
      have c2 : ¬ (f ≤ j ∧ j < f + (i + 1)) := by omega
      have c1 : ¬ (f ≤ j ∧ j < f + i) := by omega
      rw [if_neg c2, if_neg c1, hh]
      simp

/-! ### what is set is got -/

theorem get_set (w f n v : Nat) (hw : w < 18446744073709551616) (h : f + n ≤ 64) : getN (setN w f n v) f n = v % 2 ^ n := by
  refine Nat.eq_of_testBit_eq fun i => ?_
  rw [getN_bit, setN_bit w f n v _ hw h, Nat.testBit_mod_two_pow]
  by_cases c : i < n
  · have e : f + i - f = i := by omega
    simp [c, e]
  · simp [c]

theorem get_set_apart (w f n v g k : Nat) (hw : w < 18446744073709551616) (h : f + n ≤ 64) (ha : g + k ≤ f ∨ f + n ≤ g) : getN (setN w f n v) g k = getN w g k := by
  refine Nat.eq_of_testBit_eq fun i => ?_
  rw [getN_bit, getN_bit, setN_bit w f n v _ hw h]
  by_cases c : i < k
  · rw [if_neg (by omega)]
  · simp [c]

theorem set_set_get (w f n v : Nat) (hw : w < 18446744073709551616) (h : f + n ≤ 64) : setN (setN w f n v) f n (getN w f n) = w := by
  refine Nat.eq_of_testBit_eq fun i => ?_
  rw [setN_bit _ f n _ i (setN_lt w f n v hw h) h, setN_bit w f n v i hw h, getN_bit]
  by_cases c : f ≤ i ∧ i < f + n
  · have e : f + (i - f) = i := by omega
    have d : i - f < n := by omega
    simp [c, e, d]
  · simp [c]

theorem parts (w f : Nat) (hw : w < 18446744073709551616) (h : f ≤ 64) : setN (setN 0 0 f (getN w 0 f)) f (64 - f) (getN w f (64 - f)) = w := by
  refine Nat.eq_of_testBit_eq fun i => ?_
  rw [setN_bit _ f _ _ i (setN_lt 0 0 f _ (by decide) (by omega)) (by omega), setN_bit 0 0 f _ i (by decide) (by omega), getN_bit, getN_bit]
  by_cases c : i < f
  · have c1 : ¬ (f ≤ i ∧ i < f + (64 - f)) := by omega
    have c2 : 0 ≤ i ∧ i < 0 + f := by omega
    rw [if_neg c1, if_pos c2]
    simp [c]
  · by_cases d : i < 64
    · have c1 : f ≤ i ∧ i < f + (64 - f) := by omega
      have e : f + (i - f) = i := by omega
      have e2 : i - f < 64 - f := by omega
      rw [if_pos c1]
      simp [e, e2]
    · have c1 : ¬ (f ≤ i ∧ i < f + (64 - f)) := by omega
      have c2 : ¬ (0 ≤ i ∧ i < 0 + f) := by omega
      rw [if_neg c1, if_neg c2, hi_bit w i hw (by omega), Nat.zero_testBit]

theorem get_all (w : Nat) (hw : w < 18446744073709551616) : getN w 0 64 = w := by
  rw [getN, Nat.pow_zero, Nat.div_one]
  exact Nat.mod_eq_of_lt hw

/-! ### how many are 1 -/

/-- How many of the lowest k bits are 1. -/
def ones (w : Nat) : Nat → Nat
  | 0 => 0
  | k + 1 => ones w k + w / 2 ^ k % 2

theorem ones_le (w k : Nat) : ones w k ≤ k := by
  induction k with
  | zero => exact Nat.le_refl 0
  | succ k ih => rw [ones]; omega

theorem ones_shift (w k : Nat) : ones w (k + 1) = w % 2 + ones (w / 2) k := by
  induction k with
  | zero => simp [ones]
  | succ k ih =>
    have e : w / 2 ^ (k + 1) = w / 2 / 2 ^ k := by rw [Nat.pow_succ, Nat.mul_comm, ← Nat.div_div_eq_div_mul]
    rw [ones, ih, ones, e]
    omega

theorem ones_zero (k : Nat) : ones 0 k = 0 := by
  induction k with
  | zero => rfl
  | succ k ih => rw [ones, ih]; simp

theorem and_pred_odd (m : Nat) : (2 * m + 1) &&& (2 * m + 1 - 1) = 2 * m := by
  refine Nat.eq_of_testBit_eq fun i => ?_
  rw [Nat.testBit_and, Nat.add_sub_cancel]
  cases i with
  | zero => simp [Nat.testBit_zero]
  | succ i =>
    rw [Nat.testBit_succ, Nat.testBit_succ]
    have e : (2 * m + 1) / 2 = m := by omega
    have e2 : 2 * m / 2 = m := by omega
    rw [e, e2, Bool.and_self]

theorem and_pred_even (m : Nat) (h : 0 < m) : (2 * m) &&& (2 * m - 1) = 2 * (m &&& (m - 1)) := by
  refine Nat.eq_of_testBit_eq fun i => ?_
  rw [Nat.testBit_and]
  cases i with
  | zero => simp [Nat.testBit_zero]
  | succ i =>
    rw [Nat.testBit_succ, Nat.testBit_succ, Nat.testBit_succ]
    have e : (2 * m - 1) / 2 = m - 1 := by omega
    have e2 : 2 * m / 2 = m := by omega
    have e3 : 2 * (m &&& (m - 1)) / 2 = m &&& (m - 1) := by omega
    rw [e, e2, e3, Nat.testBit_and]

/-- With the lowest 1 taken away there is one less. -/
theorem ones_pred (k : Nat) : ∀ w : Nat, 0 < w → w < 2 ^ k → ones (w &&& (w - 1)) k + 1 = ones w k := by
  induction k with
  | zero => intro w h1 h2; simp at h2; omega
  | succ k ih =>
    intro w h1 h2
    rw [Nat.pow_succ] at h2
    rw [ones_shift, ones_shift]
    rcases Nat.mod_two_eq_zero_or_one w with c | c
    · obtain ⟨m, rfl⟩ : ∃ m, w = 2 * m := ⟨w / 2, by omega⟩
      have hm : 0 < m := by omega
      rw [and_pred_even m hm]
      have e : 2 * (m &&& (m - 1)) / 2 = m &&& (m - 1) := by omega
      have e2 : 2 * m / 2 = m := by omega
      have := ih m hm (by omega)
      rw [e, e2]
      omega
    · obtain ⟨m, rfl⟩ : ∃ m, w = 2 * m + 1 := ⟨w / 2, by omega⟩
      rw [and_pred_odd]
      have e : 2 * m / 2 = m := by omega
      have e2 : (2 * m + 1) / 2 = m := by omega
      rw [e, e2]
      omega

theorem ones_lt (w k : Nat) (h : 0 < w) (hw : w < 2 ^ k) : 0 < ones w k := by
  have := ones_pred k w h hw
  omega

theorem bit_val (w k : Nat) : w / 2 ^ k % 2 = (w.testBit k).toNat := by
  rw [Nat.testBit_eq_decide_div_mod_eq]
  rcases Nat.mod_two_eq_zero_or_one (w / 2 ^ k) with c | c <;> rw [c] <;> rfl

theorem ones_and_or (a b k : Nat) : ones a k + ones b k = ones (a &&& b) k + ones (a ||| b) k := by
  induction k with
  | zero => rfl
  | succ k ih =>
    rw [ones, ones, ones, ones, bit_val a, bit_val b, bit_val (a &&& b), bit_val (a ||| b), Nat.testBit_and, Nat.testBit_or]
    cases a.testBit k <;> cases b.testBit k <;> simp <;> omega

theorem ones_comp (a k : Nat) (ha : a < 18446744073709551616) (hk : k ≤ 64) : ones a k + ones (18446744073709551615 - a) k = k := by
  induction k with
  | zero => rfl
  | succ k ih =>
    have := ih (by omega)
    have hk' : k < 64 := by omega
    rw [ones, ones, bit_val a, bit_val (18446744073709551615 - a), comp_bit _ _ ha]
    cases a.testBit k <;> simp [hk'] <;> omega

theorem ones_congr (a b k : Nat) (h : ∀ i, i < k → a.testBit i = b.testBit i) : ones a k = ones b k := by
  induction k with
  | zero => rfl
  | succ k ih =>
    rw [ones, ones, ih fun i hi => h i (by omega), bit_val, bit_val, h k (by omega)]

theorem ones_set (w f : Nat) (k : Nat) (hw : w < 18446744073709551616) (hf : f < 64) (hb : w.testBit f = true) (hk : f < k) : ones (setN w f 1 0) k + 1 = ones w k := by
  induction k with
  | zero => omega
  | succ k ih =>
    rw [ones, ones, bit_val, bit_val, setN_bit w f 1 0 k hw (by omega)]
    by_cases c : f = k
    · subst c
      have e : ones (setN w f 1 0) f = ones w f := ones_congr _ _ _ fun i hi => by
        rw [setN_bit w f 1 0 i hw (by omega), if_neg (by omega)]
      rw [if_pos (by omega), e, hb, Nat.zero_testBit]
      simp
    · have := ih (by omega)
      rw [if_neg (by omega)]
      omega

/-! ### the lowest 1 -/

/-- The first bit at i or above that is 1, of m bits; else the one behind them. -/
def lowFrom (w : Nat) : Nat → Nat → Nat
  | i, 0 => i
  | i, m + 1 => if w / 2 ^ i % 2 = 1 then i else lowFrom w (i + 1) m

def low (w : Nat) : Nat := lowFrom w 0 64

theorem lowFrom_spec (w : Nat) : ∀ m i, i ≤ lowFrom w i m ∧ lowFrom w i m ≤ i + m ∧ (∀ j, i ≤ j → j < lowFrom w i m → w.testBit j = false) ∧ (lowFrom w i m < i + m → w.testBit (lowFrom w i m) = true) := by
  intro m
  induction m with
  | zero => intro i; refine ⟨Nat.le_refl _, Nat.le_refl _, fun j h1 h2 => ?_, fun h => ?_⟩ <;> simp only [lowFrom] at * <;> omega
  | succ m ih =>
    intro i
    rw [lowFrom]
    by_cases c : w / 2 ^ i % 2 = 1
    · rw [if_pos c]
      refine ⟨Nat.le_refl _, by omega, fun j h1 h2 => by omega, fun _ => ?_⟩
      rw [Nat.testBit_eq_decide_div_mod_eq, decide_eq_true c]
    · rw [if_neg c]
      obtain ⟨a1, a2, a3, a4⟩ := ih (i + 1)
      refine ⟨by omega, by omega, fun j h1 h2 => ?_, fun h => a4 (by omega)⟩
      by_cases e : j = i
      · subst e
        rw [Nat.testBit_eq_decide_div_mod_eq, decide_eq_false c]
      · exact a3 j (by omega) h2

theorem low_le (w : Nat) : low w ≤ 64 := by have := (lowFrom_spec w 64 0).2.1; simpa [low] using this
theorem low_below (w j : Nat) (h : j < low w) : w.testBit j = false := (lowFrom_spec w 64 0).2.2.1 j (Nat.zero_le _) h
theorem low_bit (w : Nat) (h : low w < 64) : w.testBit (low w) = true := (lowFrom_spec w 64 0).2.2.2 (by simpa [low] using h)

theorem low_lt (w : Nat) (h : 0 < w) (hw : w < 18446744073709551616) : low w < 64 := by
  refine Nat.lt_of_le_of_ne (low_le w) fun e => ?_
  have : w = 0 := Nat.eq_of_testBit_eq fun i => by
    rw [Nat.zero_testBit]
    by_cases c : i < 64
    · exact low_below w i (by omega)
    · exact hi_bit w i hw (by omega)
  omega

theorem low_zero : low 0 = 64 := by
  refine Nat.le_antisymm (low_le 0) ?_
  apply Nat.le_of_not_lt
  intro h
  have := low_bit 0 h
  rw [Nat.zero_testBit] at this
  contradiction

theorem low_up (w f : Nat) (hw : w < 18446744073709551616) (hf : f < 64) (hb : ∀ j, j < f → w.testBit j = false) : f < low (setN w f 1 0) := by
  apply Nat.lt_of_not_le
  intro h
  have h1 := low_bit (setN w f 1 0) (by omega)
  rw [setN_bit w f 1 0 _ hw (by omega)] at h1
  by_cases c : f ≤ low (setN w f 1 0) ∧ low (setN w f 1 0) < f + 1
  · rw [if_pos c, Nat.zero_testBit] at h1
    contradiction
  · rw [if_neg c, hb _ (by omega)] at h1
    contradiction

theorem get_low (w : Nat) (h : low w < 64) : getN w (low w) 1 = 1 := by
  have h1 := low_bit w h
  rw [Nat.testBit_eq_decide_div_mod_eq] at h1
  rw [getN]
  simpa using h1

theorem get_below (w f : Nat) (hb : ∀ j, j < f → w.testBit j = false) : getN w 0 f = 0 := by
  refine Nat.eq_of_testBit_eq fun i => ?_
  rw [getN_bit, Nat.zero_testBit, Nat.zero_add]
  by_cases c : i < f
  · rw [hb i c, Bool.and_false]
  · simp [c]

theorem get_one (w i : Nat) : getN w i 1 = w / 2 ^ i % 2 := rfl
end Go.Bit
