/-
  Kinds as words and super words, in plain numbers. No program is named here. Each theorem bears its own conditions.
-/
import Derived.Test.YtbmnhngkmokklaaLcf
namespace Go.Flo
open Go.RowKit Go.Bit

/-- A kind's word, with its first k fields. -/
def kwA (m : Nat) (f : Nat → Int) : Nat → Nat
  | 0 => m
  | k + 1 => kwA m f k + (f k).toNat * 2 ^ (4 + 2 * k)
/-- A kind as a word. -/
def kw (m : Nat) (f : Nat → Int) : Nat := kwA m f m
theorem pw (k : Nat) : 2 ^ (4 + 2 * (k + 1)) = 4 * 2 ^ (4 + 2 * k) := by
  rw [show 4 + 2 * (k + 1) = (4 + 2 * k) + 2 by omega, Nat.pow_add]
  omega
theorem pw_le (k : Nat) (h : k ≤ 15) : 2 ^ (4 + 2 * k) ≤ 17179869184 := by
  have : (2 : Nat) ^ (4 + 2 * k) ≤ 2 ^ 34 := Nat.pow_le_pow_right (by omega) (by omega)
  simpa using this
def Fld (x : Int) : Prop := 0 ≤ x ∧ x ≤ 3
theorem OkF.fld {x : Int} (h : OkF x) : Fld x := by unfold OkF at h; unfold Fld; omega
theorem kwA_lt (m : Nat) (f : Nat → Int) (hm : m ≤ 15) : ∀ k, (∀ j, j < k → Fld (f j)) → kwA m f k < 2 ^ (4 + 2 * k)
  | 0, _ => by simp [kwA]; omega
  | k + 1, h => by
    have h1 := kwA_lt m f hm k (fun j hj => h j (by omega))
    have h2 := h k (by omega)
    unfold Fld at h2
    rw [pw, kwA]
    have h3 : (f k).toNat ≤ 3 := by omega
    have h4 : (f k).toNat * 2 ^ (4 + 2 * k) ≤ 3 * 2 ^ (4 + 2 * k) := Nat.mul_le_mul_right _ h3
    omega
theorem kwA_lt64 (m : Nat) (f : Nat → Int) (hm : m ≤ 15) (k : Nat) (hk : k ≤ 15) (h : ∀ j, j < k → Fld (f j)) : kwA m f k < 17179869184 :=
  Nat.lt_of_lt_of_le (kwA_lt m f hm k h) (pw_le k hk)
theorem pw16 (k : Nat) : 2 ^ (4 + 2 * k) = 16 * 2 ^ (2 * k) := by rw [Nat.pow_add]
theorem kwA_mod (m : Nat) (f : Nat → Int) (hm : m ≤ 15) : ∀ k, kwA m f k % 16 = m
  | 0 => by simp [kwA]; omega
  | k + 1 => by
    rw [kwA, pw16, ← Nat.mul_assoc, Nat.mul_right_comm, Nat.mul_comm _ 16, Nat.add_mul_mod_self_left]
    exact kwA_mod m f hm k
theorem kwA_get (m : Nat) (f : Nat → Int) (hm : m ≤ 15) (j : Nat) : ∀ k, (∀ i, i < k → Fld (f i)) → j < k → kwA m f k / 2 ^ (4 + 2 * j) % 4 = (f j).toNat
  | 0, _, h => by omega
  | k + 1, h, hj => by
    rw [kwA]
    have hp : 0 < 2 ^ (4 + 2 * j) := Nat.two_pow_pos _
    by_cases e : j = k
    · subst e
      have h1 := kwA_lt m f hm j (fun i hi => h i (by omega))
      have h2 := h j (by omega)
      unfold Fld at h2
      rw [Nat.add_mul_div_right _ _ hp, Nat.div_eq_of_lt h1]
      omega
    · have hk : 2 ^ (4 + 2 * k) = 2 ^ (4 + 2 * j) * (4 * 2 ^ (2 * (k - j - 1))) := by
        rw [show 4 + 2 * k = (4 + 2 * j) + (2 + 2 * (k - j - 1)) by omega, Nat.pow_add, Nat.pow_add 2 2]
      rw [hk, Nat.mul_comm, Nat.mul_assoc, Nat.add_mul_div_left _ _ hp, Nat.mul_assoc, Nat.add_mul_mod_self_left]
      exact kwA_get m f hm j k (fun i hi => h i (by omega)) (by omega)

/-- A word as a kind: how many fields, which, and whether the bits behind them are 0. -/
def pm (x : Nat) : Nat := x % 16
def pf (x j : Nat) : Int := ((x / 2 ^ (4 + 2 * j) % 4 : Nat) : Int)
def Up (x : Nat) : Prop := x / 2 ^ (4 + 2 * pm x) = 0
instance (x : Nat) : Decidable (Up x) := by unfold Up; infer_instance
theorem pm_lt (x : Nat) : pm x ≤ 15 := by unfold pm; omega
theorem pf_fld (x j : Nat) : Fld (pf x j) := by unfold Fld pf; omega
theorem kwA_p (x : Nat) : ∀ k, kwA (pm x) (pf x) k = x % 2 ^ (4 + 2 * k)
  | 0 => by simp [kwA, pm]
  | k + 1 => by
    rw [kwA, kwA_p x k, pw, Nat.mul_comm 4, Nat.mod_mul]
    have : (pf x k).toNat = x / 2 ^ (4 + 2 * k) % 4 := by unfold pf; omega
    rw [this, Nat.mul_comm (x / 2 ^ (4 + 2 * k) % 4)]
theorem kw_p (x : Nat) : kw (pm x) (pf x) = x ↔ Up x := by
  unfold kw Up
  rw [kwA_p]
  have hp : 0 < 2 ^ (4 + 2 * pm x) := Nat.two_pow_pos _
  rw [Nat.div_eq_zero_iff]
  constructor
  · intro h
    right
    have h2 := Nat.mod_lt x hp
    rw [h] at h2
    exact h2
  · rintro (h | h)
    · omega
    · exact Nat.mod_eq_of_lt h
theorem kw_pm {m : Nat} {f : Nat → Int} (hm : m ≤ 15) : pm (kw m f) = m := kwA_mod m f hm m
theorem kw_pf {m : Nat} {f : Nat → Int} (hm : m ≤ 15) (h : ∀ j, j < m → Fld (f j)) {j : Nat} (hj : j < m) : pf (kw m f) j = f j := by
  unfold pf kw
  rw [kwA_get m f hm j m h hj]
  have := h j hj
  unfold Fld at this
  omega
theorem kw_up {m : Nat} {f : Nat → Int} (hm : m ≤ 15) (h : ∀ j, j < m → Fld (f j)) : Up (kw m f) := by
  unfold Up
  rw [kw_pm hm]
  exact Nat.div_eq_of_lt (kwA_lt m f hm m h)
theorem kw_lt {m : Nat} {f : Nat → Int} (hm : m ≤ 15) (h : ∀ j, j < m → Fld (f j)) : kw m f < 17179869184 := kwA_lt64 m f hm m hm h
theorem kwA_congr {m : Nat} {f f' : Nat → Int} : ∀ k, (∀ j, j < k → f j = f' j) → kwA m f k = kwA m f' k
  | 0, _ => rfl
  | k + 1, h => by rw [kwA, kwA, kwA_congr k (fun j hj => h j (by omega)), h k (by omega)]
theorem kw_congr {m : Nat} {f f' : Nat → Int} (h : ∀ j, j < m → f j = f' j) : kw m f = kw m f' := kwA_congr m h
/-- A field laid above what is there. -/
theorem or_above (x v f : Nat) (hx : x < 2 ^ f) : x ||| v * 2 ^ f = x + v * 2 ^ f := by
  have := Nat.two_pow_add_eq_or_of_lt hx v
  rw [Nat.mul_comm v, Nat.or_comm, ← this, Nat.add_comm]
theorem set_above (x f n v : Nat) (h : f + n ≤ 64) (hx : x < 2 ^ f) : setN x f n v = x + v % 2 ^ n * 2 ^ f := by
  have hf : 2 ^ f ≤ 2 ^ 64 := Nat.pow_le_pow_right (by omega) (by omega)
  have hx64 : x < 18446744073709551616 := Nat.lt_of_lt_of_le hx (by simpa using hf)
  rw [← or_above x _ f hx]
  unfold setN
  congr 1
  apply Nat.eq_of_testBit_eq
  intro i
  have hb : (2 ^ n - 1) * 2 ^ f < 18446744073709551616 := field_lt f n h _ (two_pow_pred_lt n)
  rw [Nat.testBit_and, comp_bit _ _ hb]
  by_cases hi : i < f
  · have h1 : ((2 ^ n - 1) * 2 ^ f).testBit i = false := by
      rw [Nat.testBit_mul_two_pow]
      simp; omega
    rw [h1]
    have : i < 64 := by omega
    simp [this]
  · have h1 : x.testBit i = false := Nat.testBit_lt_two_pow (Nat.lt_of_lt_of_le hx (Nat.pow_le_pow_right (by omega) (by omega)))
    rw [h1]; simp
theorem kwA_set (m : Nat) (f : Nat → Int) (hm : m ≤ 15) (k : Nat) (hk : k ≤ 14) (h : ∀ j, j ≤ k → Fld (f j)) : setN (kwA m f k) (4 + 2 * k) 2 (f k).toNat = kwA m f (k + 1) := by
  rw [set_above _ _ _ _ (by omega) (kwA_lt m f hm k (fun j hj => h j (by omega))), kwA]
  have := h k (by omega)
  unfold Fld at this
  rw [show (2 : Nat) ^ 2 = 4 from rfl, Nat.mod_eq_of_lt (by omega)]
theorem kwA_or (m : Nat) (f : Nat → Int) (hm : m ≤ 15) (k : Nat) (h : ∀ j, j < k → Fld (f j)) : kwA m f k ||| (f k).toNat * 2 ^ (4 + 2 * k) = kwA m f (k + 1) := by
  rw [or_above _ _ _ (kwA_lt m f hm k h), kwA]
theorem get_up (x : Nat) (hx : x < 18446744073709551616) : (getN x (4 + 2 * pm x) (64 - (4 + 2 * pm x)) = 0) ↔ Up x := by
  unfold getN Up
  have hm := pm_lt x
  have : x / 2 ^ (4 + 2 * pm x) < 2 ^ (64 - (4 + 2 * pm x)) := by
    rw [Nat.div_lt_iff_lt_mul (Nat.two_pow_pos _), ← Nat.pow_add, show 64 - (4 + 2 * pm x) + (4 + 2 * pm x) = 64 by omega]
    simpa using hx
  rw [Nat.mod_eq_of_lt this]

/-- The first of the super words. -/
def magicN : Nat := 0x736c63756c6c696f
/-- L words W are super words. -/
def POk (L : Nat) (W : Nat → Nat) : Prop :=
  9 + W 8 ≤ L ∧ W 0 = magicN ∧ W 8 ≤ 16 ∧ (∀ i, i < W 8 → Up (W (9 + i))) ∧ MayC (W 8) (fun i => pm (W (9 + i))) (fun i => pf (W (9 + i))) (W 4 : Nat) (W 5 : Nat) (W 6 : Nat) (W 7 : Nat) (W 1 : Nat) (W 2 : Nat) (W 3 : Nat)
instance (L : Nat) (W : Nat → Nat) : Decidable (POk L W) := by unfold POk; infer_instance
theorem wrap64_pos {x : Nat} (hx : x < 18446744073709551616) (h : 0 ≤ wrap64 (x : Int)) : wrap64 (x : Int) = x := by
  unfold wrap64 at *
  omega
theorem wrap64_small {x : Nat} (hx : x ≤ 4096) : wrap64 (x : Int) = x := by
  unfold wrap64
  omega
theorem wrap64_rng (x : Int) : -9223372036854775808 ≤ wrap64 x ∧ wrap64 x ≤ 9223372036854775807 := by
  unfold wrap64
  omega
/-- What a word is as a number. -/
def Wr (x : Nat) (y : Int) : Prop := (0 ≤ y → y = x) ∧ (x ≤ 4096 → y = x)
theorem Wr.of {x : Nat} (hx : x < 18446744073709551616) : Wr x (wrap64 (x : Int)) := ⟨wrap64_pos hx, wrap64_small⟩
theorem mayC_wrap {n : Nat} {m : Nat → Nat} {f : Nat → Nat → Int} {b0 b1 b2 b3 r wk lg : Nat} {c0 c1 c2 c3 r' wk' lg' : Int} (h0 : Wr b0 c0) (h1 : Wr b1 c1) (h2 : Wr b2 c2) (h3 : Wr b3 c3) (h4 : Wr r r') (h5 : Wr wk wk') (h6 : Wr lg lg') :
    MayC n m f c0 c1 c2 c3 r' wk' lg' ↔ MayC n m f b0 b1 b2 b3 r wk lg := by
  constructor
  · intro h
    obtain ⟨hk, ⟨x0, x1, x2, x3, x4⟩, ⟨x5, x6, x7, x8⟩, ⟨x9, xa, xb⟩⟩ := h
    obtain rfl := h0.1 x0.1
    obtain rfl := h1.1 x1.1
    obtain rfl := h2.1 x2.1
    obtain rfl := h3.1 x3.1
    obtain rfl := h4.1 (by omega)
    obtain rfl := h5.1 x7
    obtain rfl := h6.1 (by omega)
    exact ⟨hk, ⟨x0, x1, x2, x3, x4⟩, ⟨x5, x6, x7, x8⟩, ⟨x9, xa, xb⟩⟩
  · intro h
    obtain ⟨hk, ⟨x0, x1, x2, x3, x4⟩, ⟨x5, x6, x7, x8⟩, ⟨x9, xa, xb⟩⟩ := h
    obtain rfl := h0.2 (by omega)
    obtain rfl := h1.2 (by omega)
    obtain rfl := h2.2 (by omega)
    obtain rfl := h3.2 (by omega)
    obtain rfl := h4.2 (by omega)
    obtain rfl := h5.2 (by omega)
    obtain rfl := h6.2 (by omega)
    exact ⟨hk, ⟨x0, x1, x2, x3, x4⟩, ⟨x5, x6, x7, x8⟩, ⟨x9, xa, xb⟩⟩
end Go.Flo
