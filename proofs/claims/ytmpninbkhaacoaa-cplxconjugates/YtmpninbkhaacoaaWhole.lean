/-
  Plain facts on 64-bit floats whose value is a small whole number: written, added, subtracted, multiplied and compared they are as the whole numbers. No Go text in sight. No conditions but the bounds that each fact names.
-/
import Derived.Test.YtmpninbkhaacoaaFlo
namespace Go.Flo

theorem log2_pow_mul {n : Nat} (hn : n ≠ 0) (k : Nat) : (n * 2 ^ k).log2 = n.log2 + k := by
  induction k with
  | zero => simp
  | succ k ih =>
    have h0 : n * 2 ^ k ≠ 0 := Nat.mul_ne_zero hn (Nat.pos_iff_ne_zero.1 (Nat.two_pow_pos k))
    have e : n * 2 ^ (k + 1) = 2 * (n * 2 ^ k) := by rw [Nat.pow_succ]; ac_rfl
    rw [e, Nat.log2_two_mul h0, ih]
    omega

/-- The digits of n as a full significand. -/
def K (n : Nat) : Nat := n * 2 ^ (52 - n.log2)

theorem K_ge {n : Nat} (h0 : n ≠ 0) (h1 : n < 2 ^ 53) : 2 ^ 52 ≤ K n := by
  have hl : n.log2 < 53 := (Nat.log2_lt h0).2 h1
  have := Nat.log2_self_le h0
  unfold K
  calc 2 ^ 52 = 2 ^ n.log2 * 2 ^ (52 - n.log2) := by rw [← Nat.pow_add]; congr 1; omega
    _ ≤ n * 2 ^ (52 - n.log2) := Nat.mul_le_mul_right _ this

theorem K_lt {n : Nat} (h0 : n ≠ 0) (h1 : n < 2 ^ 53) : K n < 2 ^ 53 := by
  have hl : n.log2 < 53 := (Nat.log2_lt h0).2 h1
  have := Nat.lt_log2_self (n := n)
  unfold K
  calc n * 2 ^ (52 - n.log2) < 2 ^ (n.log2 + 1) * 2 ^ (52 - n.log2) := Nat.mul_lt_mul_of_pos_right this (Nat.two_pow_pos _)
    _ = 2 ^ 53 := by rw [← Nat.pow_add]; congr 1; omega

theorem even_cut_exact (neg : Bool) (q d : Nat) : Ieee.Toward.even.cut neg (q * 2 ^ d) d = q := by
  unfold Ieee.Toward.cut
  by_cases hq : q = 0
  · subst hq
    simp [Nat.one_shiftLeft]
  · have hm : min d ((q * 2 ^ d).log2 + 2) = d := by
      rw [log2_pow_mul hq]
      omega
    have hp := Nat.two_pow_pos d
    simp only [hm, Nat.one_shiftLeft, Nat.mul_mod_left, Nat.mul_div_cancel _ hp, Nat.mul_zero, Nat.not_lt_zero, decide_false, Bool.false_or]
    have : (2 ^ d == 0) = false := by simp
    simp [this]

/-- A whole number below 2 ^ 53, in whatever digits it comes, is written as it is. -/
theorem nearest_whole (neg : Bool) (N : Nat) (p : Int) (n c : Nat) (h0 : n ≠ 0) (h1 : n < 2 ^ 53) (hp : 0 ≤ p + c) (h : N * 2 ^ (p + c).toNat = n * 2 ^ c) :
    Ieee.double.nearest neg N p = Ieee.double.word neg ((n.log2 + 1022) * 2 ^ 52 + K n) := by
  have hl : n.log2 < 53 := (Nat.log2_lt h0).2 h1
  have hN : N ≠ 0 := by
    intro h'
    subst h'
    rw [Nat.zero_mul] at h
    have := Nat.mul_pos (Nat.pos_of_ne_zero h0) (Nat.two_pow_pos c)
    omega
  have hlog : N.log2 + (p + c).toNat = n.log2 + c := by
    rw [← log2_pow_mul hN, ← log2_pow_mul h0, h]
  have hlog' : p + (N.log2 : Int) = (n.log2 : Int) := by omega
  have e1 : Ieee.double.leastPlace = -1074 := by decide
  have e2 : (Ieee.double.fractionBits : Int) = 52 := by decide
  have e3 : Ieee.double.binade = 2 ^ 52 := by decide
  have e4 : Ieee.double.infRung = 2047 * 2 ^ 52 := by decide
  unfold Ieee.Format.nearest
  rw [if_neg hN]
  simp only [e1, e2, e3, e4]
  have elast : max (p + (N.log2 : Int) - 52) (-1074) = (n.log2 : Int) - 52 := by omega
  rw [elast]
  have ekept : Ieee.Toward.even.cut neg (N <<< (p - ((n.log2 : Int) - 52)).toNat) (((n.log2 : Int) - 52) - p).toNat = K n := by
    rw [Nat.shiftLeft_eq]
    by_cases hc : (n.log2 : Int) - 52 ≤ p
    · have e0 : (((n.log2 : Int) - 52) - p).toNat = 0 := by omega
      rw [e0]
      have := even_cut_exact neg (N * 2 ^ (p - ((n.log2 : Int) - 52)).toNat) 0
      rw [Nat.pow_zero, Nat.mul_one] at this
      rw [this]
      unfold K
      -- N * 2^(p - L + 52) = n * 2^(52 - L)
      have hx : N * 2 ^ (p - ((n.log2 : Int) - 52)).toNat * 2 ^ (c + n.log2) = n * 2 ^ (52 - n.log2) * 2 ^ (c + n.log2) := by
        have a1 : (p - ((n.log2 : Int) - 52)).toNat + (c + n.log2) = (p + c).toNat + 52 := by omega
        have a2 : (52 - n.log2) + (c + n.log2) = c + 52 := by omega
        rw [Nat.mul_assoc, Nat.mul_assoc, ← Nat.pow_add, ← Nat.pow_add, a1, a2, Nat.pow_add, Nat.pow_add, ← Nat.mul_assoc, ← Nat.mul_assoc, h]
      exact Nat.eq_of_mul_eq_mul_right (Nat.two_pow_pos _) hx
    · have e0 : (p - ((n.log2 : Int) - 52)).toNat = 0 := by omega
      rw [e0, Nat.pow_zero, Nat.mul_one]
      have hN' : N = K n * 2 ^ (((n.log2 : Int) - 52) - p).toNat := by
        have hx : N * 2 ^ (p + c).toNat = K n * 2 ^ (((n.log2 : Int) - 52) - p).toNat * 2 ^ (p + c).toNat := by
          unfold K
          have a1 : (52 - n.log2) + ((((n.log2 : Int) - 52) - p).toNat + (p + c).toNat) = c := by omega
          rw [h, Nat.mul_assoc, Nat.mul_assoc, ← Nat.pow_add, ← Nat.pow_add, a1]
        exact Nat.eq_of_mul_eq_mul_right (Nat.two_pow_pos _) hx
      rw [hN']
      exact even_cut_exact _ _ _
  rw [ekept]
  have hk := K_lt h0 h1
  have er : ((n.log2 : Int) - 52 - -1074).toNat = n.log2 + 1022 := by omega
  rw [er]
  have : (n.log2 + 1022) * 2 ^ 52 + K n ≤ 2047 * 2 ^ 52 := by
    have : (n.log2 + 1022) ≤ 1074 := by omega
    omega
  rw [Nat.min_eq_left this]

/-- What that word reads as. -/
theorem read_whole (neg : Bool) {n : Nat} (h0 : n ≠ 0) (h1 : n < 2 ^ 53) :
    Ieee.double.read (Ieee.double.word neg ((n.log2 + 1022) * 2 ^ 52 + K n)) = .number neg (K n) ((n.log2 : Int) - 52) := by
  have hl : n.log2 < 53 := (Nat.log2_lt h0).2 h1
  have hk1 := K_lt h0 h1
  have hk0 := K_ge h0 h1
  have e1 : Ieee.double.leastPlace = -1074 := by decide
  have e3 : Ieee.double.binade = 2 ^ 52 := by decide
  have e4 : Ieee.double.infRung = 2047 * 2 ^ 52 := by decide
  have e5 : Ieee.double.signWeight = 2 ^ 63 := by decide
  have hr : (n.log2 + 1022) * 2 ^ 52 + K n < Ieee.double.signWeight := by rw [e5]; omega
  unfold Ieee.Format.read
  simp only [rung_of_word neg hr, sign_of_word neg hr]
  simp only [e1, e3, e4]
  rw [if_neg (by omega), if_pos (by omega)]
  have hm : ((n.log2 + 1022) * 2 ^ 52 + K n) % 2 ^ 52 = K n - 2 ^ 52 := by omega
  have hd : ((n.log2 + 1022) * 2 ^ 52 + K n) / 2 ^ 52 = n.log2 + 1023 := by omega
  rw [hm, hd]
  have g1 : 2 ^ 52 + (K n - 2 ^ 52) = K n := by omega
  have g2 : (-1074 : Int) + ((n.log2 + 1023 - 1 : Nat) : Int) = (n.log2 : Int) - 52 := by omega
  rw [g1, g2]

theorem read_zero (neg : Bool) : Ieee.double.read (Ieee.double.word neg 0) = .number neg 0 (-1074) := by
  cases neg <;> decide

/-- A place below which no number has a digit; kept behind a name. -/
def U : Nat := 1074
theorem U_eq : U = 1074 := rfl

/-- The word x stands for the whole number n. -/
def IsInt (x : Nat) (n : Int) : Prop :=
  ∃ s, Ieee.double.read x = if n = 0 then .number s 0 (-1074) else .number (decide (n < 0)) (K n.natAbs) ((n.natAbs.log2 : Int) - 52)

/-- A place from which everything is a whole number of units. -/
theorem IsInt.scaled {x : Nat} {n : Int} (h : IsInt x n) (hn : n.natAbs < 2 ^ 53) :
    ∃ s m p, Ieee.double.read x = .number s m p ∧ 0 ≤ p + U ∧ Ieee.signed s m (p + U).toNat = n * ((2 ^ U : Nat) : Int) := by
  have hU := U_eq
  generalize U = u at hU
  obtain ⟨s, h⟩ := h
  by_cases h0 : n = 0
  · rw [if_pos h0] at h
    refine ⟨s, 0, -1074, h, by omega, ?_⟩
    subst h0
    cases s <;> simp [Ieee.signed]
  · rw [if_neg h0] at h
    have hl : n.natAbs.log2 < 53 := (Nat.log2_lt (by omega)).2 hn
    refine ⟨_, _, _, h, by omega, ?_⟩
    have e : ((n.natAbs.log2 : Int) - 52 + u).toNat = n.natAbs.log2 + (u - 52) := by omega
    rw [e]
    have hk : K n.natAbs <<< (n.natAbs.log2 + (u - 52)) = n.natAbs * 2 ^ u := by
      rw [Nat.shiftLeft_eq]
      unfold K
      have a1 : 52 - n.natAbs.log2 + (n.natAbs.log2 + (u - 52)) = u := by omega
      rw [Nat.mul_assoc, ← Nat.pow_add, a1]
    unfold Ieee.signed
    rw [hk]
    generalize 2 ^ u = T
    by_cases hneg : n < 0
    · simp only [hneg, decide_true, if_true]
      rw [Int.natCast_mul]
      have : ((n.natAbs : Nat) : Int) = -n := by omega
      rw [this, Int.neg_mul, Int.neg_neg]
    · simp only [hneg, decide_false, Bool.false_eq_true, if_false]
      rw [Int.natCast_mul]
      have : ((n.natAbs : Nat) : Int) = n := by omega
      rw [this]

theorem signed_shift (s : Bool) (m k l : Nat) : Ieee.signed s m k * ((2 ^ l : Nat) : Int) = Ieee.signed s m (k + l) := by
  unfold Ieee.signed
  have e : m <<< (k + l) = (m <<< k) * 2 ^ l := by rw [Nat.shiftLeft_add, Nat.shiftLeft_eq (m <<< k)]
  cases s
  · simp only [Bool.false_eq_true, if_false]
    rw [e, Int.natCast_mul]
  · simp only [if_true]
    rw [e, Int.natCast_mul, Int.neg_mul]

theorem signed_natAbs (s : Bool) (m k : Nat) : (Ieee.signed s m k).natAbs = m * 2 ^ k := by
  unfold Ieee.signed
  cases s
  · simp only [Bool.false_eq_true, if_false, Int.natAbs_natCast, Nat.shiftLeft_eq]
  · simp only [if_true, Int.natAbs_neg, Int.natAbs_natCast, Nat.shiftLeft_eq]

theorem signed_not (s : Bool) (m k : Nat) : Ieee.signed (!s) m k = - Ieee.signed s m k := by
  unfold Ieee.signed
  cases s <;> simp

theorem isInt_nearest (neg : Bool) (N : Nat) (p : Int) (c : Nat) (n : Int) (hn : n.natAbs < 2 ^ 53) (hp : 0 ≤ p + c)
    (h : N * 2 ^ (p + c).toNat = n.natAbs * 2 ^ c) (hs : n ≠ 0 → neg = decide (n < 0)) : IsInt (Ieee.double.nearest neg N p) n := by
  by_cases h0 : n = 0
  · subst h0
    have hN : N = 0 := by
      rw [Int.natAbs_zero, Nat.zero_mul] at h
      rcases Nat.mul_eq_zero.1 h with h | h
      · exact h
      · have := Nat.two_pow_pos (p + c).toNat
        omega
    subst hN
    refine ⟨neg, ?_⟩
    rw [if_pos rfl]
    unfold Ieee.Format.nearest
    rw [if_pos rfl]
    exact read_zero neg
  · refine ⟨neg, ?_⟩
    rw [if_neg h0, nearest_whole neg N p n.natAbs c (by omega) hn hp h, read_whole neg (by omega) hn, hs h0]

theorem isInt_ofInt (n : Int) (hn : n.natAbs < 2 ^ 53) : IsInt (floatOfInt .f64 n) n := by
  show IsInt (Ieee.double.nearest (decide (n < 0)) n.natAbs 0) n
  exact isInt_nearest _ _ 0 0 n hn (by omega) (by simp) (fun _ => rfl)

theorem sign_of_scaled {s : Bool} {m k : Nat} {n T : Int} (hT : 0 < T) (h : Ieee.signed s m k = n * T) (h0 : n ≠ 0) : s = decide (n < 0) := by
  unfold Ieee.signed at h
  cases s
  · simp only [Bool.false_eq_true, if_false] at h
    have h1 : 0 ≤ n * T := by rw [← h]; exact Int.natCast_nonneg _
    have h2 : ¬ n < 0 := fun hn => by
      have := Int.mul_neg_of_neg_of_pos hn hT
      omega
    simp [h2]
  · simp only [if_true] at h
    have h1 : n * T ≤ 0 := by rw [← h]; have := Int.natCast_nonneg (m <<< k); omega
    have h2 : n < 0 := by
      rcases Int.lt_trichotomy n 0 with hn | hn | hn
      · exact hn
      · exact absurd hn h0
      · have := Int.mul_pos hn hT
        omega
    simp [h2]

theorem pow_pos_int (k : Nat) : (0 : Int) < ((2 ^ k : Nat) : Int) := by
  have := Nat.two_pow_pos k
  omega

/-- A sum of two data that stand for whole numbers. -/
theorem isInt_sum {s t : Bool} {m n : Nat} {i j : Int} {a b : Int} (hi : 0 ≤ i + U) (hj : 0 ≤ j + U)
    (ha : Ieee.signed s m (i + U).toNat = a * ((2 ^ U : Nat) : Int)) (hb : Ieee.signed t n (j + U).toNat = b * ((2 ^ U : Nat) : Int)) (hn : (a + b).natAbs < 2 ^ 53) :
    ∃ d, (Ieee.Datum.number s m i).sum (.number t n j) = some d ∧ IsInt (Ieee.double.write d) (a + b) := by
  refine ⟨_, rfl, ?_⟩
  have hbi : 0 ≤ min i j + U := by omega
  generalize hT : ((2 ^ U : Nat) : Int) = T at ha hb
  have hTpos : 0 < T := by rw [← hT]; exact pow_pos_int _
  have htot : (Ieee.signed s m (i - min i j).toNat + Ieee.signed t n (j - min i j).toNat) * ((2 ^ (min i j + U).toNat : Nat) : Int) = (a + b) * T := by
    rw [Int.add_mul, signed_shift, signed_shift, Int.add_mul]
    have e1 : (i - min i j).toNat + (min i j + U).toNat = (i + U).toNat := by omega
    have e2 : (j - min i j).toNat + (min i j + U).toNat = (j + U).toNat := by omega
    rw [e1, e2, ha, hb]
  simp only [Ieee.Format.write]
  generalize Ieee.signed s m (i - min i j).toNat + Ieee.signed t n (j - min i j).toNat = tot at htot
  have hP : (0 : Int) < ((2 ^ (min i j + U).toNat : Nat) : Int) := pow_pos_int _
  refine isInt_nearest _ _ _ U (a + b) hn hbi ?_ ?_
  · have h := congrArg Int.natAbs htot
    rw [Int.natAbs_mul, Int.natAbs_mul, ← hT, Int.natAbs_natCast, Int.natAbs_natCast] at h
    exact h
  · intro h0
    have hz : tot ≠ 0 := by
      intro h
      rw [h, Int.zero_mul] at htot
      rcases Int.mul_eq_zero.1 htot.symm with h | h
      · exact h0 h
      · omega
    rw [if_neg hz]
    generalize ((2 ^ (min i j + U).toNat : Nat) : Int) = Q at htot hP
    by_cases hneg : tot < 0
    · have h1 := Int.mul_neg_of_neg_of_pos hneg hP
      have h2 : a + b < 0 := by
        rcases Int.lt_trichotomy (a + b) 0 with hn | hn | hn
        · exact hn
        · exact absurd hn h0
        · have := Int.mul_pos hn hTpos
          omega
      simp [hneg, h2]
    · have h1 := Int.mul_pos (a := tot) (by omega) hP
      have h2 : ¬ a + b < 0 := fun hn => by
        have := Int.mul_neg_of_neg_of_pos hn hTpos
        omega
      simp [hneg, h2]

theorem isInt_add {x y : Nat} {a b : Int} (hx : IsInt x a) (hy : IsInt y b) (ha : a.natAbs < 2 ^ 53) (hb : b.natAbs < 2 ^ 53) (hn : (a + b).natAbs < 2 ^ 53) :
    ∃ r, Ieee.double.add x y = some r ∧ IsInt r (a + b) := by
  obtain ⟨s, m, i, hr1, hi, e1⟩ := hx.scaled ha
  obtain ⟨t, n, j, hr2, hj, e2⟩ := hy.scaled hb
  obtain ⟨d, hd, hI⟩ := isInt_sum hi hj e1 e2 hn
  refine ⟨_, ?_, hI⟩
  unfold Ieee.Format.add
  rw [hr1, hr2, hd]
  rfl

theorem isInt_sub {x y : Nat} {a b : Int} (hx : IsInt x a) (hy : IsInt y b) (ha : a.natAbs < 2 ^ 53) (hb : b.natAbs < 2 ^ 53) (hn : (a - b).natAbs < 2 ^ 53) :
    ∃ r, Ieee.double.sub x y = some r ∧ IsInt r (a - b) := by
  obtain ⟨s, m, i, hr1, hi, e1⟩ := hx.scaled ha
  obtain ⟨t, n, j, hr2, hj, e2⟩ := hy.scaled hb
  have e2' : Ieee.signed (!t) n (j + U).toNat = (-b) * ((2 ^ U : Nat) : Int) := by rw [signed_not, e2, Int.neg_mul]
  rw [Int.sub_eq_add_neg] at hn ⊢
  obtain ⟨d, hd, hI⟩ := isInt_sum hi hj e1 e2' hn
  refine ⟨_, ?_, hI⟩
  unfold Ieee.Format.sub
  rw [hr1, hr2]
  simp only [Ieee.Datum.opposite]
  rw [hd]
  rfl

theorem isInt_mul {x y : Nat} {a b : Int} (hx : IsInt x a) (hy : IsInt y b) (ha : a.natAbs < 2 ^ 53) (hb : b.natAbs < 2 ^ 53) (hn : (a * b).natAbs < 2 ^ 53) :
    ∃ r, Ieee.double.mul x y = some r ∧ IsInt r (a * b) := by
  obtain ⟨s, m, i, hr1, hi, e1⟩ := hx.scaled ha
  obtain ⟨t, n, j, hr2, hj, e2⟩ := hy.scaled hb
  refine ⟨Ieee.double.nearest (s ^^ t) (m * n) (i + j), ?_, ?_⟩
  · unfold Ieee.Format.mul
    rw [hr1, hr2]
    rfl
  · refine isInt_nearest _ _ _ (U + U) (a * b) hn (by omega) ?_ ?_
    · have h1 := congrArg Int.natAbs e1
      have h2 := congrArg Int.natAbs e2
      rw [signed_natAbs, Int.natAbs_mul, Int.natAbs_natCast] at h1 h2
      have e : (i + j + ((U + U : Nat) : Int)).toNat = (i + U).toNat + (j + U).toNat := by omega
      rw [e, Nat.pow_add, Nat.pow_add, Int.natAbs_mul]
      generalize 2 ^ U = T at h1 h2
      calc m * n * (2 ^ (i + U).toNat * 2 ^ (j + U).toNat) = (m * 2 ^ (i + U).toNat) * (n * 2 ^ (j + U).toNat) := by ac_rfl
        _ = (a.natAbs * T) * (b.natAbs * T) := by rw [h1, h2]
        _ = a.natAbs * b.natAbs * (T * T) := by ac_rfl
    · intro h0
      have ha0 : a ≠ 0 := fun h => h0 (by rw [h, Int.zero_mul])
      have hb0 : b ≠ 0 := fun h => h0 (by rw [h, Int.mul_zero])
      have hT : (0 : Int) < ((2 ^ U : Nat) : Int) := pow_pos_int _
      have s1 := sign_of_scaled hT e1 ha0
      have s2 := sign_of_scaled hT e2 hb0
      rw [s1, s2]
      rcases Int.lt_or_gt_of_ne ha0 with h1 | h1 <;> rcases Int.lt_or_gt_of_ne hb0 with h2 | h2
      · have := Int.mul_pos_of_neg_of_neg h1 h2
        have h3 : ¬ a * b < 0 := by omega
        simp [h1, h2, h3]
      · have := Int.mul_neg_of_neg_of_pos h1 h2
        have h3 : ¬ b < 0 := by omega
        simp [h1, this, h3]
      · have := Int.mul_neg_of_pos_of_neg h1 h2
        have h3 : ¬ a < 0 := by omega
        simp [h2, this, h3]
      · have := Int.mul_pos h1 h2
        have h3 : ¬ a < 0 := by omega
        have h4 : ¬ b < 0 := by omega
        have h5 : ¬ a * b < 0 := by omega
        simp [h3, h4, h5]

theorem isInt_eq {x y : Nat} {n : Int} (hx : IsInt x n) (hy : IsInt y n) : Ieee.double.order x y = some .eq := by
  obtain ⟨s, h1⟩ := hx
  obtain ⟨t, h2⟩ := hy
  unfold Ieee.Format.order
  rw [h1, h2]
  by_cases h0 : n = 0
  · rw [if_pos h0, if_pos h0]
    cases s <;> cases t <;> decide
  · rw [if_neg h0, if_neg h0]
    simp [Ieee.Datum.order, compare, compareOfLessAndEq]

theorem isInt_addP {x y : Nat} {a b : Int} (hx : IsInt x a) (hy : IsInt y b) (ha : a.natAbs < 2 ^ 53) (hb : b.natAbs < 2 ^ 53) (hn : (a + b).natAbs < 2 ^ 53) : IsInt (addP x y) (a + b) := by
  obtain ⟨r, h, hI⟩ := isInt_add hx hy ha hb hn
  unfold addP cl
  rw [h]
  exact hI

/-- Small enough that products stay whole. -/
theorem isInt_mulRe {x y u v : Nat} {p q r s : Int} (hx : IsInt x p) (hy : IsInt y q) (hu : IsInt u r) (hv : IsInt v s)
    (hp : p.natAbs < 2 ^ 53) (hq : q.natAbs < 2 ^ 53) (hr : r.natAbs < 2 ^ 53) (hs : s.natAbs < 2 ^ 53)
    (h1 : (p * r).natAbs < 2 ^ 53) (h2 : (q * s).natAbs < 2 ^ 53) (h3 : (p * r - q * s).natAbs < 2 ^ 53) : IsInt (mulRe x y u v) (p * r - q * s) := by
  obtain ⟨e1, f1, i1⟩ := isInt_mul hx hu hp hr h1
  obtain ⟨e2, f2, i2⟩ := isInt_mul hy hv hq hs h2
  obtain ⟨e3, f3, i3⟩ := isInt_sub i1 i2 h1 h2 h3
  unfold mulRe cl ar2
  rw [f1, f2]
  simp only [Option.bind_some, Ar.bits]
  rw [f3]
  exact i3

theorem isInt_mulIm {x y u v : Nat} {p q r s : Int} (hx : IsInt x p) (hy : IsInt y q) (hu : IsInt u r) (hv : IsInt v s)
    (hp : p.natAbs < 2 ^ 53) (hq : q.natAbs < 2 ^ 53) (hr : r.natAbs < 2 ^ 53) (hs : s.natAbs < 2 ^ 53)
    (h1 : (p * s).natAbs < 2 ^ 53) (h2 : (q * r).natAbs < 2 ^ 53) (h3 : (p * s + q * r).natAbs < 2 ^ 53) : IsInt (mulIm x y u v) (p * s + q * r) := by
  obtain ⟨e1, f1, i1⟩ := isInt_mul hx hv hp hs h1
  obtain ⟨e2, f2, i2⟩ := isInt_mul hy hu hq hr h2
  obtain ⟨e3, f3, i3⟩ := isInt_add i1 i2 h1 h2 h3
  unfold mulIm cl ar2
  rw [f1, f2]
  simp only [Option.bind_some, Ar.bits]
  rw [f3]
  exact i3

/-- The pair z stands for p + qi, both parts at most M. -/
def SC (z : Nat × Nat) (p q : Int) (M : Nat) : Prop := IsInt z.1 p ∧ IsInt z.2 q ∧ p.natAbs ≤ M ∧ q.natAbs ≤ M

def addC (z y : Nat × Nat) : Nat × Nat := (addP z.1 y.1, addP z.2 y.2)

theorem SC.add {z y : Nat × Nat} {p q r s : Int} {M N : Nat} (h : SC z p q M) (k : SC y r s N) (hb : M + N < 2 ^ 53) : SC (addC z y) (p + r) (q + s) (M + N) := by
  obtain ⟨h1, h2, h3, h4⟩ := h
  obtain ⟨k1, k2, k3, k4⟩ := k
  refine ⟨isInt_addP h1 k1 (by omega) (by omega) (by omega), isInt_addP h2 k2 (by omega) (by omega) (by omega), by omega, by omega⟩

theorem SC.mul {z y : Nat × Nat} {p q r s : Int} {M N : Nat} (h : SC z p q M) (k : SC y r s N) (hM : M < 2 ^ 53) (hN : N < 2 ^ 53) (hb : 2 * (M * N) < 2 ^ 53) : SC (mulC z y) (p * r - q * s) (p * s + q * r) (2 * (M * N)) := by
  obtain ⟨h1, h2, h3, h4⟩ := h
  obtain ⟨k1, k2, k3, k4⟩ := k
  have a1 : (p * r).natAbs ≤ M * N := by rw [Int.natAbs_mul]; exact Nat.mul_le_mul h3 k3
  have a2 : (q * s).natAbs ≤ M * N := by rw [Int.natAbs_mul]; exact Nat.mul_le_mul h4 k4
  have a3 : (p * s).natAbs ≤ M * N := by rw [Int.natAbs_mul]; exact Nat.mul_le_mul h3 k4
  have a4 : (q * r).natAbs ≤ M * N := by rw [Int.natAbs_mul]; exact Nat.mul_le_mul h4 k3
  refine ⟨isInt_mulRe h1 h2 k1 k2 (by omega) (by omega) (by omega) (by omega) (by omega) (by omega) (by omega), isInt_mulIm h1 h2 k1 k2 (by omega) (by omega) (by omega) (by omega) (by omega) (by omega) (by omega), by omega, by omega⟩

theorem SC.ofInt {p q : Int} {M : Nat} (hp : p.natAbs ≤ M) (hq : q.natAbs ≤ M) (hM : M < 2 ^ 53) : SC (floatOfInt .f64 p, floatOfInt .f64 q) p q M :=
  ⟨isInt_ofInt p (by omega), isInt_ofInt q (by omega), hp, hq⟩

/-- The two tests by which the walk decides '==' on complex numbers. -/
theorem SC.re {z y : Nat × Nat} {p q r s : Int} {M N : Nat} (h : SC z p q M) (k : SC y r s N) (e : p = r) : (FloatKind.f64.format.order z.1 y.1 == some Ordering.eq) = true := by
  subst e
  show (Ieee.double.order z.1 y.1 == some Ordering.eq) = true
  rw [isInt_eq h.1 k.1]; rfl
theorem SC.im {z y : Nat × Nat} {p q r s : Int} {M N : Nat} (h : SC z p q M) (k : SC y r s N) (e : q = s) : (FloatKind.f64.format.order z.2 y.2 == some Ordering.eq) = true := by
  subst e
  show (Ieee.double.order z.2 y.2 == some Ordering.eq) = true
  rw [isInt_eq h.2.1 k.2.1]; rfl

theorem tmod_abs (a : Int) (k : Nat) (hk : 0 < k) : (a.tmod k).natAbs < k := by
  rw [Int.natAbs_tmod, Int.natAbs_natCast]
  exact Nat.mod_lt _ hk

theorem powC_zero1 (a : Nat × Nat) : powC a 1 = a := rfl
theorem powC_two (a : Nat × Nat) : powC a 2 = mulC a a := by
  have : Nat.log2 2 = 1 := by decide
  simp [powC, this, runP]
theorem powC_three (a : Nat × Nat) : powC a 3 = mulC (mulC a a) a := by
  have : Nat.log2 3 = 1 := by decide
  simp [powC, this, runP]

/-- The sign bit turned. -/
theorem read_flip (x : Nat) : Ieee.double.read (x ^^^ 9223372036854775808) = (Ieee.double.read x).opposite := by
  have e5 : Ieee.double.signWeight = 2 ^ 63 := by decide
  have hm : (x ^^^ 9223372036854775808) % 2 ^ 63 = x % 2 ^ 63 := by
    rw [Nat.xor_mod_two_pow]
    simp
  have hd : ((x ^^^ 9223372036854775808) / 2 ^ 63 % 2 == 1) = !(x / 2 ^ 63 % 2 == 1) := by
    rw [Nat.xor_div_two_pow]
    generalize x / 2 ^ 63 = a
    have : (a ^^^ 9223372036854775808 / 2 ^ 63) % 2 ^ 1 = (a % 2 ^ 1) ^^^ 1 := by rw [Nat.xor_mod_two_pow]
    rw [Nat.pow_one] at this
    rw [this]
    rcases Nat.mod_two_eq_zero_or_one a with h | h <;> rw [h] <;> rfl
  unfold Ieee.Format.read
  rw [e5]
  simp only [hm, hd]
  split
  · rfl
  · split
    · rfl
    · split <;> rfl

theorem isInt_flip {x : Nat} {n : Int} (h : IsInt x n) : IsInt (x ^^^ 9223372036854775808) (-n) := by
  obtain ⟨s, h⟩ := h
  refine ⟨!s, ?_⟩
  rw [read_flip, h]
  by_cases h0 : n = 0
  · subst h0
    rfl
  · have h1 : ¬ -n = 0 := by omega
    rw [if_neg h0, if_neg h1, Int.natAbs_neg]
    simp only [Ieee.Datum.opposite]
    congr 1
    by_cases hn : n < 0
    · rw [decide_eq_true hn, decide_eq_false (by omega : ¬ -n < 0)]
      rfl
    · rw [decide_eq_false hn, decide_eq_true (by omega : -n < 0)]
      rfl

theorem floatOfInt_lt (n : Int) : floatOfInt .f64 n < 18446744073709551616 := Ieee.double.nearest_lt _ _ _

/-! Powers of whole complex numbers. -/
def mulZ (x y : Int × Int) : Int × Int := (x.1 * y.1 - x.2 * y.2, x.1 * y.2 + x.2 * y.1)

def powZ (v : Int × Int) : Nat → Int × Int
  | 0 => (1, 0)
  | k + 1 => mulZ (powZ v k) v

theorem mulZ_assoc (x y z : Int × Int) : mulZ (mulZ x y) z = mulZ x (mulZ y z) := by
  unfold mulZ
  refine Prod.ext ?_ ?_ <;> simp only <;> grind

theorem mulZ_one (x : Int × Int) : mulZ x (1, 0) = x := by
  unfold mulZ
  refine Prod.ext ?_ ?_ <;> simp

theorem one_mulZ (x : Int × Int) : mulZ (1, 0) x = x := by
  unfold mulZ
  refine Prod.ext ?_ ?_ <;> simp

theorem powZ_add (v : Int × Int) (m n : Nat) : mulZ (powZ v m) (powZ v n) = powZ v (m + n) := by
  induction n with
  | zero => simp [powZ, mulZ_one]
  | succ n ih =>
    show mulZ (powZ v m) (mulZ (powZ v n) v) = mulZ (powZ v (m + n)) v
    rw [← mulZ_assoc, ih]

/-- The pair z stands for v, whose parts are together at most M. -/
def SZ (z : Nat × Nat) (v : Int × Int) (M : Nat) : Prop := IsInt z.1 v.1 ∧ IsInt z.2 v.2 ∧ v.1.natAbs + v.2.natAbs ≤ M

theorem SZ.mul {z y : Nat × Nat} {v u : Int × Int} {M N : Nat} (h : SZ z v M) (k : SZ y u N) (hM : M < 2 ^ 53) (hN : N < 2 ^ 53) (hb : M * N < 2 ^ 53) : SZ (mulC z y) (mulZ v u) (M * N) := by
  obtain ⟨h1, h2, h3⟩ := h
  obtain ⟨k1, k2, k3⟩ := k
  have b : (v.1.natAbs + v.2.natAbs) * (u.1.natAbs + u.2.natAbs) ≤ M * N := Nat.mul_le_mul h3 k3
  have e : (v.1.natAbs + v.2.natAbs) * (u.1.natAbs + u.2.natAbs) = (v.1 * u.1).natAbs + (v.2 * u.2).natAbs + ((v.1 * u.2).natAbs + (v.2 * u.1).natAbs) := by
    rw [Int.natAbs_mul, Int.natAbs_mul, Int.natAbs_mul, Int.natAbs_mul, Nat.add_mul, Nat.mul_add, Nat.mul_add]
    omega
  rw [e] at b
  refine ⟨isInt_mulRe h1 h2 k1 k2 (by omega) (by omega) (by omega) (by omega) (by omega) (by omega) ?_, isInt_mulIm h1 h2 k1 k2 (by omega) (by omega) (by omega) (by omega) (by omega) (by omega) ?_, ?_⟩
  · omega
  · omega
  · simp only [mulZ]
    omega

theorem runP_whole {a : Nat × Nat} {v : Int × Int} (ha : SZ a v 10) (n : Nat) (hn : n ≤ 8) :
    ∀ (k : Nat) (c : Nat × Nat), SZ c (powZ v (n / 2 ^ k)) (10 ^ (n / 2 ^ k)) → SZ (runP a n k c) (powZ v n) (10 ^ n) := by
  have big : ∀ j, j ≤ 8 → 10 ^ j < 2 ^ 53 := fun j hj => Nat.lt_of_le_of_lt (Nat.pow_le_pow_right (by decide) hj) (by decide)
  intro k
  induction k with
  | zero =>
    intro c h
    rw [Nat.pow_zero, Nat.div_one] at h
    exact h
  | succ k ih =>
    intro c h
    have e : n / 2 ^ (k + 1) = n / 2 ^ k / 2 := by rw [Nat.pow_succ, Nat.div_div_eq_div_mul]
    have hle : n / 2 ^ k ≤ 8 := Nat.le_trans (Nat.div_le_self _ _) hn
    rw [e] at h
    simp only [runP]
    apply ih
    generalize n / 2 ^ k = j at h hle
    have hsq : SZ (mulC c c) (powZ v (j / 2 + j / 2)) (10 ^ (j / 2 + j / 2)) := by
      have := h.mul h (big _ (by omega)) (big _ (by omega)) (by rw [← Nat.pow_add]; exact big _ (by omega))
      rw [powZ_add, ← Nat.pow_add] at this
      exact this
    by_cases hb : j % 2 = 1
    · rw [if_pos hb]
      have hj : j = j / 2 + j / 2 + 1 := by omega
      have := hsq.mul ha (big _ (by omega)) (by decide) (by rw [← Nat.pow_succ]; exact big _ (by omega))
      rw [← Nat.pow_succ] at this
      rw [hj]
      have h2 : (j / 2 + j / 2 + 1) / 2 = j / 2 := by omega
      exact this
    · rw [if_neg hb]
      have hj : j / 2 + j / 2 = j := by omega
      rw [hj] at hsq
      exact hsq

/-- The power that the program tells of a natural number. -/
def pw (a : Nat × Nat) (n : Nat) : Nat × Nat := if n = 0 then (4607182418800017408, 0) else powC a n

theorem pw_whole {a : Nat × Nat} {v : Int × Int} (ha : SZ a v 10) (n : Nat) (hn : n ≤ 8) : SZ (pw a n) (powZ v n) (10 ^ n) := by
  unfold pw
  by_cases h0 : n = 0
  · subst h0
    have h1 : IsInt 4607182418800017408 1 := ⟨false, by decide +kernel⟩
    have h2 : IsInt 0 0 := ⟨false, by decide +kernel⟩
    rw [if_pos rfl]
    exact ⟨h1, h2, Nat.le_refl _⟩
  · rw [if_neg h0]
    unfold powC
    refine runP_whole ha n hn _ a ?_
    have h2 : n / 2 ^ n.log2 = 1 := by
      have x := Nat.log2_self_le h0
      have y := Nat.lt_log2_self (n := n)
      rw [Nat.pow_succ] at y
      have hp := Nat.two_pow_pos n.log2
      have c : 1 ≤ n / 2 ^ n.log2 := (Nat.le_div_iff_mul_le hp).2 (by omega)
      have d : n / 2 ^ n.log2 < 2 := (Nat.div_lt_iff_lt_mul hp).2 (by omega)
      omega
    rw [h2]
    show SZ a (mulZ (1, 0) v) 10
    rw [one_mulZ]
    exact ha

theorem SZ.re {z y : Nat × Nat} {v u : Int × Int} {M N : Nat} (h : SZ z v M) (k : SZ y u N) (e : v = u) : (FloatKind.f64.format.order z.1 y.1 == some Ordering.eq) = true := by
  subst e
  exact beq_of_eq (isInt_eq h.1 k.1)
theorem SZ.im {z y : Nat × Nat} {v u : Int × Int} {M N : Nat} (h : SZ z v M) (k : SZ y u N) (e : v = u) : (FloatKind.f64.format.order z.2 y.2 == some Ordering.eq) = true := by
  subst e
  exact beq_of_eq (isInt_eq h.2.1 k.2.1)

/-! Bounds of products and sums, without a nonlinear term in sight of the arithmetic. -/
theorem prod_le {x y : Int} {A B : Nat} (hx : x.natAbs ≤ A) (hy : y.natAbs ≤ B) : (x * y).natAbs ≤ A * B := by
  rw [Int.natAbs_mul]; exact Nat.mul_le_mul hx hy

theorem ws {x : Int} {M : Nat} (h : x.natAbs ≤ M) (hM : M ≤ 4611686018427387904) : RowKit.wrap64 x = x := IntWalk.wrap64_in x ⟨by omega, by omega⟩
theorem lo {x : Int} {M : Nat} (h : x.natAbs ≤ M) (hM : M < 10000000000) : -10000000000 < x := by omega
theorem hi {x : Int} {M : Nat} (h : x.natAbs ≤ M) (hM : M < 10000000000) : x < 10000000000 := by omega
theorem lo3 {x : Int} (h : x.natAbs ≤ 999) : -1000 < x := by omega
theorem hi3 {x : Int} (h : x.natAbs ≤ 999) : x < 1000 := by omega
theorem sub_le {x y : Int} {A B : Nat} (hx : x.natAbs ≤ A) (hy : y.natAbs ≤ B) : (x - y).natAbs ≤ A + B := by omega
theorem add_le {x y : Int} {A B : Nat} (hx : x.natAbs ≤ A) (hy : y.natAbs ≤ B) : (x + y).natAbs ≤ A + B := by omega
theorem tri_le {x : Int} {A : Nat} (hx : x.natAbs ≤ A) : (3 * x).natAbs ≤ 3 * A := by omega

end Go.Flo
