/-
  Bits by numbers, packed 64 to a word: definitions and laws in plain arithmetic. No program is named here. Each theorem bears its own conditions.
-/
import Derived.Test.YtfihaaciaobolaaBit
import Derived.Laws.Bits128
import Derived.Laws.BitsAllLaws
namespace Go.Bmp
open Go.Bit

/-- The first m bits of f as a number. -/
def packN (f : Nat → Bool) : Nat → Nat
  | 0 => 0
  | m + 1 => packN f m + (f m).toNat * 2 ^ m
theorem packN_lt (f : Nat → Bool) (m : Nat) : packN f m < 2 ^ m := by
  induction m with
  | zero => simp [packN]
  | succ m ih =>
    have h : (f m).toNat ≤ 1 := by cases f m <;> simp
    have h2 : (f m).toNat * 2 ^ m ≤ 2 ^ m := by
      calc (f m).toNat * 2 ^ m ≤ 1 * 2 ^ m := Nat.mul_le_mul_right _ h
        _ = 2 ^ m := Nat.one_mul _
    unfold packN
    rw [Nat.pow_succ]
    omega
theorem packN_bit (f : Nat → Bool) (m i : Nat) : (packN f m).testBit i = (decide (i < m) && f i) := by
  induction m with
  | zero => simp [packN]
  | succ m ih =>
    have hl := packN_lt f m
    unfold packN
    have hc : packN f m + (f m).toNat * 2 ^ m = 2 ^ m * (f m).toNat + packN f m := by rw [Nat.mul_comm, Nat.add_comm]
    rw [hc, Nat.testBit_two_pow_mul_add _ hl]
    by_cases h : i < m
    · rw [if_pos h, ih]
      simp [h, Nat.lt_succ_of_lt h]
    · rw [if_neg h]
      by_cases h2 : i = m
      · subst h2
        cases f i <;> simp
      · have h3 : ¬ i < m + 1 := by omega
        have h4 : 0 < i - m := by omega
        have e1 : Nat.testBit 1 (i - m) = false := by
          obtain ⟨d, hd⟩ : ∃ d, i - m = d + 1 := ⟨i - m - 1, by omega⟩
          rw [hd, Nat.testBit_succ]
          simp
        cases f m
        · simp [h3]
        · simp only [Bool.toNat_true, h3, decide_false, Bool.false_and]
          exact e1

/-- The kth word of bits. -/
def pack (B : Nat → Bool) (k : Nat) : Nat := packN (fun j => B (64 * k + j)) 64
theorem pack_lt (B : Nat → Bool) (k : Nat) : pack B k < 18446744073709551616 := packN_lt _ 64
theorem pack_bit (B : Nat → Bool) (k j : Nat) : (pack B k).testBit j = (decide (j < 64) && B (64 * k + j)) := packN_bit _ 64 j
theorem pack_ext {B : Nat → Bool} {k x : Nat} (hx : x < 18446744073709551616) (h : ∀ j, j < 64 → x.testBit j = B (64 * k + j)) : x = pack B k := by
  refine Nat.eq_of_testBit_eq fun j => ?_
  rw [pack_bit]
  by_cases hj : j < 64
  · simp [hj, h j hj]
  · simp [hj, hi_bit x j hx (by omega)]
theorem pack_congr {B C : Nat → Bool} {k : Nat} (h : ∀ j, j < 64 → B (64 * k + j) = C (64 * k + j)) : pack B k = pack C k :=
  pack_ext (pack_lt _ _) fun j hj => by rw [pack_bit]; simp [hj, h j hj]
theorem pack_zero {B : Nat → Bool} {k : Nat} (h : ∀ j, j < 64 → B (64 * k + j) = false) : pack B k = 0 :=
  (pack_ext (by decide) fun j hj => by rw [h j hj, Nat.zero_testBit]).symm
theorem pack_get (B : Nat → Bool) (i : Nat) : getN (pack B (i / 64)) (i % 64) 1 = (B i).toNat := by
  have h := pack_bit B (i / 64) (i % 64)
  have hm : i % 64 < 64 := Nat.mod_lt _ (by decide)
  rw [show 64 * (i / 64) + i % 64 = i by omega] at h
  rw [get_one, bit_val, h]
  simp [hm]

/-- One bit made another. -/
def upd (B : Nat → Bool) (i : Nat) (b : Bool) : Nat → Bool := fun j => if j = i then b else B j
theorem upd_same (B : Nat → Bool) (i : Nat) (b : Bool) : upd B i b i = b := by simp [upd]
theorem upd_far (B : Nat → Bool) {i j : Nat} (b : Bool) (h : j ≠ i) : upd B i b j = B j := by simp [upd, h]
theorem upd_self (B : Nat → Bool) (i : Nat) : upd B i (B i) = B := by
  funext j
  unfold upd
  split
  · rename_i h; rw [h]
  · rfl
theorem pack_upd (B : Nat → Bool) (i : Nat) (b : Bool) : pack (upd B i b) (i / 64) = setN (pack B (i / 64)) (i % 64) 1 b.toNat := by
  have hm : i % 64 < 64 := Nat.mod_lt _ (by decide)
  refine (pack_ext (setN_lt _ _ _ _ (pack_lt _ _) (by omega)) fun j hj => ?_).symm
  rw [setN_bit _ _ _ _ _ (pack_lt _ _) (by omega), pack_bit]
  by_cases h : j = i % 64
  · subst h
    have e : 64 * (i / 64) + i % 64 = i := by omega
    rw [e]
    cases b <;> simp [upd]
  · have e : 64 * (i / 64) + j ≠ i := by omega
    have e2 : ¬ (i % 64 ≤ j ∧ j < i % 64 + 1) := by omega
    simp [upd, e, e2, hj]
theorem pack_upd_far (B : Nat → Bool) {i k : Nat} (b : Bool) (h : k ≠ i / 64) : pack (upd B i b) k = pack B k :=
  pack_congr fun j hj => upd_far B b (by omega)

/-- How many of the first m are 1. -/
def cnt (B : Nat → Bool) : Nat → Nat
  | 0 => 0
  | m + 1 => cnt B m + (B m).toNat
theorem cnt_le (B : Nat → Bool) (m : Nat) : cnt B m ≤ m := by
  induction m with
  | zero => simp [cnt]
  | succ m ih =>
    have h : (B m).toNat ≤ 1 := by cases B m <;> simp
    unfold cnt; omega
theorem cnt_congr {B C : Nat → Bool} {m : Nat} (h : ∀ j, j < m → B j = C j) : cnt B m = cnt C m := by
  induction m with
  | zero => rfl
  | succ m ih => unfold cnt; rw [ih (fun j hj => h j (by omega)), h m (by omega)]
theorem cnt_tidy {B : Nat → Bool} {n : Nat} (h : ∀ i, n ≤ i → B i = false) (d : Nat) : cnt B (n + d) = cnt B n := by
  induction d with
  | zero => rfl
  | succ d ih =>
    show cnt B (n + d) + (B (n + d)).toNat = _
    rw [ih, h _ (by omega)]
    rfl
theorem cnt_upd (B : Nat → Bool) (i : Nat) (b : Bool) (m : Nat) (h : i < m) : cnt (upd B i b) m + (B i).toNat = cnt B m + b.toNat := by
  induction m with
  | zero => omega
  | succ m ih =>
    unfold cnt
    by_cases hi : i = m
    · subst hi
      rw [upd_same, cnt_congr (C := B) (fun j hj => upd_far B b (by omega))]
      omega
    · have := ih (by omega)
      rw [upd_far B b (show m ≠ i by omega)]
      omega
/-- A word's ones. -/
theorem ones_pack (B : Nat → Bool) (k m : Nat) (hm : m ≤ 64) : ones (pack B k) m + cnt B (64 * k) = cnt B (64 * k + m) := by
  induction m with
  | zero => simp [ones]
  | succ m ih =>
    have h := ih (by omega)
    show _ = cnt B (64 * k + m) + (B (64 * k + m)).toNat
    rw [← h]
    have hb : ones (pack B k) (m + 1) = ones (pack B k) m + (B (64 * k + m)).toNat := by
      show ones (pack B k) m + pack B k / 2 ^ m % 2 = _
      rw [bit_val, pack_bit]
      simp [show m < 64 by omega]
    omega

/-- The first from a on, within m, that is b; -1. -/
def fstN (B : Nat → Bool) (b : Bool) (a : Nat) : Nat → Int
  | 0 => -1
  | m + 1 => if B a = b then a else fstN B b (a + 1) m
def fst (B : Nat → Bool) (a t : Nat) (b : Bool) : Int := fstN B b a (t - a)
theorem fst_end {B : Nat → Bool} {a t : Nat} {b : Bool} (h : t ≤ a) : fst B a t b = -1 := by
  unfold fst
  rw [show t - a = 0 by omega]
  rfl
theorem fst_here {B : Nat → Bool} {a t : Nat} {b : Bool} (h : a < t) (hb : B a = b) : fst B a t b = a := by
  unfold fst
  obtain ⟨d, hd⟩ : ∃ d, t - a = d + 1 := ⟨t - a - 1, by omega⟩
  rw [hd]
  simp [fstN, hb]
theorem fst_next {B : Nat → Bool} {a t : Nat} {b : Bool} (hb : a < t → B a ≠ b) : fst B a t b = fst B (a + 1) t b := by
  rcases Nat.lt_or_ge a t with h | h
  · unfold fst
    rw [show t - a = (t - (a + 1)) + 1 by omega]
    simp [fstN, hb h]
  · rw [fst_end h, fst_end (by omega)]
theorem fst_skip {B : Nat → Bool} {t : Nat} {b : Bool} (d : Nat) : ∀ a, (∀ j, j < d → a + j < t → B (a + j) ≠ b) → fst B a t b = fst B (a + d) t b := by
  induction d with
  | zero => intro a _; rfl
  | succ d ih =>
    intro a h
    rw [fst_next (fun hl => by have := h 0 (by omega) (by omega); simpa using this), ih (a + 1) (fun j hj hl => by rw [show a + 1 + j = a + (j + 1) by omega] at *; exact h (j + 1) (by omega) hl)]
    congr 1
    omega
theorem fst_spec (B : Nat → Bool) (t : Nat) (b : Bool) : ∀ d a, t - a = d → (fst B a t b = -1 ∧ ∀ j, a ≤ j → j < t → B j ≠ b) ∨ ∃ i : Nat, fst B a t b = i ∧ a ≤ i ∧ i < t ∧ B i = b ∧ ∀ j, a ≤ j → j < i → B j ≠ b := by
  intro d
  induction d with
  | zero => intro a h; exact .inl ⟨fst_end (by omega), fun j h1 h2 => by omega⟩
  | succ d ih =>
    intro a h
    by_cases hb : B a = b
    · exact .inr ⟨a, fst_here (by omega) hb, by omega, by omega, hb, fun j h1 h2 => by omega⟩
    · rw [fst_next (fun _ => hb)]
      rcases ih (a + 1) (by omega) with ⟨h1, h2⟩ | ⟨i, h1, h2, h3, h4, h5⟩
      · refine .inl ⟨h1, fun j h3 h4 => ?_⟩
        rcases Nat.eq_or_lt_of_le h3 with e | e
        · rw [← e]; exact hb
        · exact h2 j e h4
      · refine .inr ⟨i, h1, by omega, h3, h4, fun j h6 h7 => ?_⟩
        rcases Nat.eq_or_lt_of_le h6 with e | e
        · rw [← e]; exact hb
        · exact h5 j e h7
theorem fst_congr {B C : Nat → Bool} {t : Nat} {b : Bool} : ∀ d a, t - a = d → (∀ j, j < t → B j = C j) → fst B a t b = fst C a t b := by
  intro d
  induction d with
  | zero => intro a h _; rw [fst_end (by omega), fst_end (by omega)]
  | succ d ih =>
    intro a h hc
    by_cases hb : B a = b
    · rw [fst_here (by omega) hb, fst_here (by omega) ((hc a (by omega)).symm.trans hb)]
    · have hb' : C a ≠ b := by rw [← hc a (by omega)]; exact hb
      rw [fst_next (B := B) (a := a) (fun _ => hb), fst_next (B := C) (a := a) (fun _ => hb'), ih (a + 1) (by omega) hc]

/-! What is left of a word, from a bit on. -/
theorem left_bit (C : Nat → Bool) (a j : Nat) : (pack C (a / 64) / 2 ^ (a % 64)).testBit j = (decide (a % 64 + j < 64) && C (a + j)) := by
  rw [Nat.testBit_div_two_pow, pack_bit, Nat.add_comm j]
  by_cases h : a % 64 + j < 64
  · rw [show 64 * (a / 64) + (a % 64 + j) = a + j by omega]
  · simp [h]
theorem left_none {C : Nat → Bool} {a : Nat} (h : pack C (a / 64) / 2 ^ (a % 64) = 0) (j : Nat) (hj : a % 64 + j < 64) : C (a + j) = false := by
  have := left_bit C a j
  rw [h, Nat.zero_testBit] at this
  simpa [hj] using this.symm
theorem left_low {C : Nat → Bool} {a : Nat} (h : 0 < pack C (a / 64) / 2 ^ (a % 64)) (x : Nat) (hx : pack C (a / 64) / 2 ^ (a % 64) = x) : C (a + low x) = true ∧ ∀ j, j < low x → C (a + j) = false := by
  rw [hx] at h
  have hl : x < 18446744073709551616 := by rw [← hx]; exact Nat.lt_of_le_of_lt (Nat.div_le_self _ _) (pack_lt _ _)
  have h64 := low_lt x h hl
  have hb := low_bit x h64
  have e1 := left_bit C a (low x)
  rw [hx, hb] at e1
  have e1' : a % 64 + low x < 64 ∧ C (a + low x) = true := by simpa using e1.symm
  refine ⟨e1'.2, fun j hj => ?_⟩
  have e2 := left_bit C a j
  rw [hx, low_below x j hj] at e2
  have : a % 64 + j < 64 := by omega
  simpa [this] using e2.symm
theorem pack_not (B : Nat → Bool) (k : Nat) : pack (fun i => B i == false) k = 18446744073709551615 - pack B k := by
  refine (pack_ext (by omega) fun j hj => ?_).symm
  rw [comp_bit _ _ (pack_lt _ _), pack_bit]
  simp only [hj, decide_true, Bool.true_and]
  cases B (64 * k + j) <;> rfl
theorem pack_is (B : Nat → Bool) (k : Nat) : pack (fun i => B i == true) k = pack B k := pack_congr fun j _ => by cases B (64 * k + j) <;> rfl

/-! Bits of a map that is made of words. -/
def ofB (n len : Nat) (f : Nat → Nat) (i : Nat) : Bool := decide (i < n) && (decide (i / 64 < len) && (f (i / 64)).testBit (i % 64))
theorem ofB_tidy (n len : Nat) (f : Nat → Nat) (i : Nat) (h : n ≤ i) : ofB n len f i = false := by simp [ofB, show ¬ i < n by omega]

/-- Words of so many bits. -/
def nw (n : Nat) : Nat := (n + 63) / 64
/-- The words behind a copy, ahead of the last one's end. -/
def cpy (len : Nat) (f : Nat → Nat) (k : Nat) : Nat := if k < len then f k else 0
theorem cpy_lt {len : Nat} {f : Nat → Nat} (hf : ∀ k, f k < 18446744073709551616) (k : Nat) : cpy len f k < 18446744073709551616 := by
  unfold cpy; split
  · exact hf k
  · decide
theorem cpy_pack {n len : Nat} {f : Nat → Nat} (hf : ∀ k, f k < 18446744073709551616) {k : Nat} (hk : 64 * k + 64 ≤ n) : cpy len f k = pack (ofB n len f) k := by
  refine pack_ext (cpy_lt hf k) fun j hj => ?_
  have e1 : (64 * k + j) / 64 = k := by omega
  have e2 : (64 * k + j) % 64 = j := by omega
  have e3 : 64 * k + j < n := by omega
  unfold ofB cpy
  rw [e1, e2]
  by_cases h : k < len
  · simp [h, e3]
  · simp [h, e3]
theorem cpy_last {n len : Nat} {f : Nat → Nat} (hf : ∀ k, f k < 18446744073709551616) : getN (cpy len f (n / 64)) 0 (n % 64) = pack (ofB n len f) (n / 64) := by
  refine pack_ext (getN_lt64 _ _ _ (cpy_lt hf _)) fun j hj => ?_
  have e1 : (64 * (n / 64) + j) / 64 = n / 64 := by omega
  have e2 : (64 * (n / 64) + j) % 64 = j := by omega
  rw [getN_bit, Nat.zero_add]
  unfold ofB cpy
  rw [e1, e2]
  have e3 : (64 * (n / 64) + j < n) ↔ (j < n % 64) := by omega
  by_cases h : n / 64 < len
  · simp [h, e3]
  · simp [h]

/-! Numbers and their bits. -/
theorem i64_and63 (n : Nat) (h : n < 9223372036854775808) : bits .and .i64 (n : Int) 63 = ((n % 64 : Nat) : Int) := by
  have h63 : (BitVec.ofInt 64 63).toNat = 2 ^ 6 - 1 := by decide
  have key : (BitVec.ofInt 64 (n : Int) &&& BitVec.ofInt 64 63).toNat = ((n : Int) % ((2 ^ 64 : Nat) : Int)).toNat % 2 ^ 6 := by
    rw [BitVec.toNat_and, BitVec.toNat_ofInt, h63, Nat.and_two_pow_sub_one_eq_mod]
  show IntKind.i64.wrap ((BitVec.ofInt 64 (n : Int) &&& BitVec.ofInt 64 63).toNat : Nat) = _
  rw [key, IntKind.wrap_i64]
  omega
theorem or63 (n : Nat) : n ||| 63 = 64 * (n / 64) + 63 := by
  refine Nat.eq_of_testBit_eq fun i => ?_
  have h63 : (63 : Nat) = 2 ^ 6 - 1 := by decide
  rw [Nat.testBit_or]
  have e : (64 * (n / 64) + 63).testBit i = if i < 6 then (63 : Nat).testBit i else (n / 64).testBit (i - 6) := Nat.testBit_two_pow_mul_add (n / 64) (b := 63) (i := 6) (by decide) i
  rw [e]
  have e2 : (63 : Nat).testBit i = decide (i < 6) := by rw [h63, Nat.testBit_two_pow_sub_one]
  rw [e2]
  by_cases h : i < 6
  · simp [h]
  · have e3 : (n / 64).testBit (i - 6) = n.testBit i := by
      rw [show (64 : Nat) = 2 ^ 6 by decide, Nat.testBit_div_two_pow]
      congr 1
      omega
    simp [h, e3]
theorem i64_or63 (n : Nat) (h : n < 9223372036854775808) : bits .or .i64 (n : Int) 63 = ((64 * (n / 64) + 63 : Nat) : Int) := by
  have h63 : (BitVec.ofInt 64 63).toNat = 63 := by decide
  have hn : ((n : Int) % ((2 ^ 64 : Nat) : Int)).toNat = n := by omega
  have key : (BitVec.ofInt 64 (n : Int) ||| BitVec.ofInt 64 63).toNat = 64 * (n / 64) + 63 := by
    rw [BitVec.toNat_or, BitVec.toNat_ofInt, h63, hn, or63]
  show IntKind.i64.wrap ((BitVec.ofInt 64 (n : Int) ||| BitVec.ofInt 64 63).toNat : Nat) = _
  rw [key, IntKind.wrap_i64]
  omega
end Go.Bmp
