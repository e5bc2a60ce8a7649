/-
  An object's first word in plain arithmetic: its fields, its check, one bit turned. No program is named here. Each theorem bears its own conditions.
-/
import Derived.Test.YtbmnhngkmokklaaBit
namespace Go.Bit

/-- What stands below the check. -/
def hbody (k m e : Nat) : Nat := k + 16 * m + 512 * (e % 4294967296)

/-- The check of a word. -/
def hck (x : Nat) : Nat := ones (getN x 0 56) 64 + 1

/-- A header. -/
def hd (k m e : Nat) : Nat := hbody k m e + 72057594037927936 * hck (hbody k m e)

/-- Is it one? -/
def IsH (x : Nat) : Prop := (0 < getN x 4 5 ∧ getN x 4 5 ≤ 16) ∧ getN x 41 15 = 0 ∧ getN x 56 8 = hck x

instance (x : Nat) : Decidable (IsH x) := by unfold IsH; infer_instance

theorem setN_add (x f n v : Nat) (hx : x < 2 ^ f) (h : f + n ≤ 64) : setN x f n v = x + 2 ^ f * (v % 2 ^ n) := by
  have h4 : (2 : Nat) ^ 64 = 18446744073709551616 := by decide
  have hx6 : x < 18446744073709551616 := by
    rw [← h4]
    exact Nat.lt_of_lt_of_le hx (Nat.pow_le_pow_right (by decide) (by omega))
  refine Nat.eq_of_testBit_eq fun j => ?_
  rw [setN_bit x f n v j hx6 h, Nat.add_comm x, Nat.testBit_two_pow_mul_add _ hx, Nat.testBit_mod_two_pow]
  by_cases c : f ≤ j
  · rw [if_neg (by omega : ¬ j < f)]
    by_cases d : j < f + n
    · have d' : j - f < n := by omega
      simp [c, d, d']
    · have d' : ¬ j - f < n := by omega
      have hj : x.testBit j = false := Nat.testBit_lt_two_pow (Nat.lt_of_lt_of_le hx (Nat.pow_le_pow_right (by decide) c))
      simp [d, d', hj]
  · rw [if_pos (by omega : j < f), if_neg (by omega)]

theorem get_k (x : Nat) : getN x 0 4 = x % 16 := by simp [getN]
theorem get_m (x : Nat) : getN x 4 5 = x / 16 % 32 := by simp [getN]
theorem get_e (x : Nat) : getN x 9 32 = x / 512 % 4294967296 := by simp [getN]
theorem get_n (x : Nat) : getN x 41 15 = x / 2199023255552 % 32768 := by simp [getN]
theorem get_c (x : Nat) : getN x 56 8 = x / 72057594037927936 % 256 := by simp [getN]
theorem get_b (x : Nat) : getN x 0 56 = x % 72057594037927936 := by simp [getN]

theorem hck_pos (x : Nat) : 0 < hck x := Nat.succ_pos _
theorem hck_le (x : Nat) : hck x ≤ 65 := Nat.succ_le_succ (ones_le _ 64)
theorem hck_congr {x y : Nat} (h : x % 72057594037927936 = y % 72057594037927936) : hck x = hck y := by
  unfold hck
  rw [get_b, get_b, h]

theorem hbody_lt (k m e : Nat) (hk : k < 16) (hm : m ≤ 16) : hbody k m e < 2199023255552 := by
  unfold hbody
  omega

theorem hd_lt (k m e : Nat) (hk : k < 16) (hm : m ≤ 16) : hd k m e < 18446744073709551616 := by
  have h1 := hbody_lt k m e hk hm
  have h2 := hck_le (hbody k m e)
  unfold hd
  omega

theorem hd_ck (k m e : Nat) (hk : k < 16) (hm : m ≤ 16) : hck (hd k m e) = hck (hbody k m e) := by
  have h1 := hbody_lt k m e hk hm
  refine hck_congr ?_
  unfold hd
  omega

theorem hd_k (k m e : Nat) (hk : k < 16) (_ : m ≤ 16) : getN (hd k m e) 0 4 = k := by
  rw [get_k]
  unfold hd hbody
  omega

theorem hd_m (k m e : Nat) (hk : k < 16) (hm : m ≤ 16) : getN (hd k m e) 4 5 = m := by
  rw [get_m]
  unfold hd hbody
  omega

theorem hd_e (k m e : Nat) (hk : k < 16) (hm : m ≤ 16) : getN (hd k m e) 9 32 = e % 4294967296 := by
  rw [get_e]
  unfold hd hbody
  omega

theorem hd_n (k m e : Nat) (hk : k < 16) (hm : m ≤ 16) : getN (hd k m e) 41 15 = 0 := by
  have h1 := hbody_lt k m e hk hm
  rw [get_n]
  unfold hd
  omega

theorem hd_c (k m e : Nat) (hk : k < 16) (hm : m ≤ 16) : getN (hd k m e) 56 8 = hck (hbody k m e) := by
  have h1 := hbody_lt k m e hk hm
  have h2 := hck_le (hbody k m e)
  rw [get_c]
  unfold hd
  omega

/-- What is made is a header. -/
theorem hd_is (k m e : Nat) (hk : k < 16) (h0 : 0 < m) (hm : m ≤ 16) : IsH (hd k m e) := by
  unfold IsH
  rw [hd_m k m e hk hm, hd_n k m e hk hm, hd_c k m e hk hm, hd_ck k m e hk hm]
  exact ⟨⟨h0, hm⟩, rfl, rfl⟩

/-- A header is made of its parts. -/
theorem is_hd (x : Nat) (hx : x < 18446744073709551616) (h : IsH x) : hd (getN x 0 4) (getN x 4 5) (getN x 9 32) = x := by
  obtain ⟨⟨h0, hm⟩, hn, hc⟩ := h
  rw [get_m] at h0 hm
  rw [get_n] at hn
  rw [get_c] at hc
  have e : hbody (getN x 0 4) (getN x 4 5) (getN x 9 32) = x % 72057594037927936 := by
    rw [get_k, get_m, get_e]
    unfold hbody
    omega
  have e2 : hck (x % 72057594037927936) = hck x := hck_congr (by omega)
  unfold hd
  rw [e, e2, ← hc]
  omega

theorem zero_no : ¬ IsH 0 := by decide

/-- .. and is a header just if its parts make it. -/
theorem is_iff (x : Nat) (hx : x < 18446744073709551616) (h0 : 0 < getN x 4 5) (hm : getN x 4 5 ≤ 16) : hd (getN x 0 4) (getN x 4 5) (getN x 9 32) = x ↔ IsH x := by
  refine ⟨fun h => ?_, is_hd x hx⟩
  have hk := getN_lt x 0 4
  have := hd_is (getN x 0 4) (getN x 4 5) (getN x 9 32) hk h0 hm
  rwa [h] at this

theorem hd_eq (a b m n e f : Nat) (ha : a < 16) (hb : b < 16) (hm : m ≤ 16) (hn : n ≤ 16) :
    hd a m e = hd b n f ↔ (a = b ∧ m = n) ∧ e % 4294967296 = f % 4294967296 := by
  refine ⟨fun h => ?_, ?_⟩
  · have h1 := congrArg (fun x => getN x 0 4) h
    have h2 := congrArg (fun x => getN x 4 5) h
    have h3 := congrArg (fun x => getN x 9 32) h
    simp only [hd_k _ _ _ ha hm, hd_k _ _ _ hb hn] at h1
    simp only [hd_m _ _ _ ha hm, hd_m _ _ _ hb hn] at h2
    simp only [hd_e _ _ _ ha hm, hd_e _ _ _ hb hn] at h3
    exact ⟨⟨h1, h2⟩, h3⟩
  · rintro ⟨⟨rfl, rfl⟩, h⟩
    unfold hd hbody
    rw [h]

theorem hd_mod (k m e : Nat) : hd k m (e % 4294967296) = hd k m e := by
  unfold hd hbody
  rw [Nat.mod_mod]

/-! ### one bit turned -/

theorem getN_xor (x y f n : Nat) : getN (x ^^^ y) f n = getN x f n ^^^ getN y f n := by
  refine Nat.eq_of_testBit_eq fun i => ?_
  rw [getN_bit, Nat.testBit_xor, Nat.testBit_xor, getN_bit, getN_bit]
  cases decide (i < n) <;> simp

theorem ones_xor (a b k : Nat) : ones (a ^^^ b) k % 2 = (ones a k + ones b k) % 2 := by
  induction k with
  | zero => rfl
  | succ k ih =>
    rw [ones, ones, ones, bit_val a, bit_val b, bit_val (a ^^^ b), Nat.testBit_xor]
    cases a.testBit k <;> cases b.testBit k <;> simp <;> omega

theorem ones_pow (b k : Nat) : ones (2 ^ b) k = if b < k then 1 else 0 := by
  induction k with
  | zero => rfl
  | succ k ih =>
    rw [ones, ih, bit_val, Nat.testBit_two_pow]
    by_cases c : b = k
    · subst c
      simp
    · by_cases d : b < k
      · have d' : b < k + 1 := by omega
        simp [c, d, d']
      · have d' : ¬ b < k + 1 := by omega
        simp [c, d, d']

theorem xor_lt (x b : Nat) (hx : x < 18446744073709551616) (hb : b < 64) : x ^^^ 2 ^ b < 18446744073709551616 := by
  have h4 : (2 : Nat) ^ 64 = 18446744073709551616 := by decide
  rw [← h4] at hx ⊢
  exact Nat.xor_lt_two_pow hx (Nat.pow_lt_pow_right (by decide) hb)

/-- A header with one bit turned is none. -/
theorem turned_no (x b : Nat) (hb : b < 64) (h : IsH x) : ¬ IsH (x ^^^ 2 ^ b) := by
  rintro ⟨_, _, hc'⟩
  obtain ⟨_, _, hc⟩ := h
  by_cases c : b < 56
  · have e1 : getN (2 ^ b) 56 8 = 0 := by
      refine Nat.eq_of_testBit_eq fun i => ?_
      rw [getN_bit, Nat.testBit_two_pow, Nat.zero_testBit]
      have : ¬ b = 56 + i := by omega
      simp [this]
    have e2 : getN (2 ^ b) 0 56 = 2 ^ b := by
      refine Nat.eq_of_testBit_eq fun i => ?_
      rw [getN_bit, Nat.testBit_two_pow, Nat.testBit_two_pow, Nat.zero_add]
      by_cases d : b = i
      · have : i < 56 := by omega
        simp [this]
      · simp [d]
    rw [getN_xor, e1, Nat.xor_zero, hc] at hc'
    unfold hck at hc'
    rw [getN_xor, e2] at hc'
    have h1 := ones_xor (getN x 0 56) (2 ^ b) 64
    rw [ones_pow, if_pos hb] at h1
    omega
  · have e2 : getN (2 ^ b) 0 56 = 0 := by
      refine Nat.eq_of_testBit_eq fun i => ?_
      rw [getN_bit, Nat.testBit_two_pow, Nat.zero_testBit, Nat.zero_add]
      by_cases d : b = i
      · have : ¬ i < 56 := by omega
        simp [this]
      · simp [d]
    have e3 : hck (x ^^^ 2 ^ b) = hck x := by
      unfold hck
      rw [getN_xor, e2, Nat.xor_zero]
    rw [e3, ← hc, getN_xor] at hc'
    have h1 := congrArg (fun y => y.testBit (b - 56)) hc'
    have e4 : (getN (2 ^ b) 56 8).testBit (b - 56) = true := by
      rw [getN_bit, Nat.testBit_two_pow]
      have d1 : b - 56 < 8 := by omega
      have d2 : b = 56 + (b - 56) := by omega
      simp [d1, ← d2]
    simp only [Nat.testBit_xor, e4] at h1
    cases hh : (getN x 56 8).testBit (b - 56) <;> rw [hh] at h1 <;> simp at h1
end Go.Bit
