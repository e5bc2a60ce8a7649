/-
  What cplx.Power and its twin return, for every number and every power. No conditions.
-/
import Derived.Test.YtmpninbkhaacoaaBase
import Derived.Test.YtmpninbkhaacoaaShelf
import Derived.Lib.Hide
namespace Go.Proofs.Ytmpninbkhaacoaa
open Go.RowKit Go.Flo

theorem bitLen_log2 (n : Nat) (h0 : 1 ≤ n) (h : n < 2 ^ 64) : Lib.bitLen n = n.log2 + 1 := by
  have h1 := Lib.bitLen_shift n.log2 n (Nat.log2_self_le (by omega)) h
  have h2 : n / 2 ^ n.log2 = 1 := by
    have a := Nat.log2_self_le (n := n) (by omega)
    have b := Nat.lt_log2_self (n := n)
    rw [Nat.pow_succ] at b
    have hp := Nat.two_pow_pos n.log2
    have c : 1 ≤ n / 2 ^ n.log2 := (Nat.le_div_iff_mul_le hp).2 (by omega)
    have d : n / 2 ^ n.log2 < 2 := (Nat.div_lt_iff_lt_mul hp).2 (by omega)
    omega
  rw [h1, h2]
  rfl

theorem len_any (n : Nat) (h0 : 1 ≤ n) (h : n ≤ 4096) (w : World) : Calls Try.prog 36 #[.int .u64 n] w fun e w' => e = .returned (.int .i64 (n.log2 + 1 : Nat)) ∧ w = w' := by
  have k := Try.bits_Len n w (by omega) (by omega)
  rw [Int.toNat_natCast, bitLen_log2 n h0 (by omega)] at k
  exact k.mono fun e w' h => ⟨h.1, h.2.symm⟩

theorem log2_le12 {n : Nat} (h0 : 1 ≤ n) (h : n ≤ 4096) : n.log2 ≤ 12 := by
  have : n.log2 < 13 := (Nat.log2_lt (by omega)).2 (by omega)
  omega

theorem and_one64 (i : Nat) (hi : i < 9223372036854775808) : bits BinOp.and IntKind.i64 (i : Int) 1 = ((i % 2 : Nat) : Int) := by
  unfold bits
  have e1 : (BitVec.ofInt 64 (i : Int)).toNat = i := by
    rw [BitVec.ofInt_natCast, BitVec.toNat_ofNat, Nat.mod_eq_of_lt (by omega)]
  have e2 : (BitVec.ofInt IntKind.i64.bits (i : Int) &&& BitVec.ofInt IntKind.i64.bits 1).toNat = i % 2 := by
    show (BitVec.ofInt 64 (i : Int) &&& BitVec.ofInt 64 1).toNat = i % 2
    rw [BitVec.toNat_and, e1]
    show i &&& 1 = i % 2
    exact Nat.and_one_is_mod i
  simp only [e2]
  have h2 : i % 2 < 2 := Nat.mod_lt _ (by decide)
  generalize i % 2 = r at h2
  rcases (by omega : r = 0 ∨ r = 1) with rfl | rfl <;> decide

theorem bit_test (n j : Nat) (h : n ≤ 4096) : (bits BinOp.and IntKind.i64 ((n : Int) / 2 ^ j) 1 == 1) = decide (n / 2 ^ j % 2 = 1) := by
  have e : ((n : Int) / 2 ^ j) = ((n / 2 ^ j : Nat) : Int) := by simp
  have hl : n / 2 ^ j ≤ n := Nat.div_le_self _ _
  rw [e, and_one64 _ (by omega)]
  generalize n / 2 ^ j % 2 = r
  rw [Bool.eq_iff_iff]
  simp
  omega

theorem runP_yes {a : Nat × Nat} {n j x y : Nat} {R : Nat × Nat} (hr : runP a n (j + 1) (x, y) = R) (h : n / 2 ^ j % 2 = 1) :
    runP a n j (mulRe (mulRe x y x y) (mulIm x y x y) a.1 a.2, mulIm (mulRe x y x y) (mulIm x y x y) a.1 a.2) = R := by
  simpa only [runP, h, if_true, mulC] using hr

theorem runP_no {a : Nat × Nat} {n j x y : Nat} {R : Nat × Nat} (hr : runP a n (j + 1) (x, y) = R) (h : ¬ n / 2 ^ j % 2 = 1) :
    runP a n j (mulRe x y x y, mulIm x y x y) = R := by
  simpa only [runP, h, if_false, mulC] using hr

/-- What holds at the head of every round of Power's loop. -/
def PowRel (a : Nat × Nat) (n : Nat) (w : World) (c i : Value) (wr : World) : Prop :=
  ∃ (k : Nat) (x y : Nat) (m : Int), k ≤ 12 ∧ m + 1 = k ∧ c = .complex .f64 x y ∧ i = .int .i64 m ∧ runP a n k (x, y) = powC a n ∧ Dr w wr

set_option maxHeartbeats 400000 in
theorem power_pos (a b n : Nat) (m0 : Int) (h0 : 1 ≤ m0) (hmin : min m0 4096 = (n : Int)) (w : World) : Calls Try.prog 25 #[.complex .f64 a b, .int .i64 m0] w fun e w' => e = .returned (.complex .f64 (powC (a, b) n).1 (powC (a, b) n).2) ∧ Dr w w' := by
  have h1 : 1 ≤ n := by omega
  have h2 : n ≤ 4096 := by omega
  have hlen := fun w => len_any n h1 h2 w
  have hlg := log2_le12 h1 h2
  go_enter Try.func25, Try.ntmps25
  go_wp2_with fail
  (with_reducible refine (hlen _).mono ?_)
  rintro e w' ⟨rfl, rfl⟩
  clear hlen
  go_wp2_with fail
  go_loopw [5, 6] (fun c i wr => PowRel (a, b) n w c i wr) (fun _ i _ => (intOf i + 1).toNat)
  case atStart => exact ⟨n.log2, a, b, _, hlg, by omega, rfl, rfl, rfl, Dr.refl _⟩
  case round =>
    obtain ⟨k, x, y, m, hk, hm, rfl, rfl, hrun, hd⟩ := hrel
    have HR := Lib.hid hrun
    clear hrun hmin
    by_cases hz : m = -1
    · subst hz
      go_wp2
      go_ret
      have hk0 : k = 0 := by omega
      subst hk0
      have hr := HR.out
      simp only [runP] at hr
      exact ⟨ret_cplx (congrArg Prod.fst hr) (congrArg Prod.snd hr), hd⟩
    · obtain ⟨j, rfl⟩ : ∃ j : Nat, m = j := ⟨m.toNat, by omega⟩
      have hk' : k = j + 1 := by omega
      subst hk'
      clear hm hz
      go_wp2_with (go_at_call 21; refine (mul_any _ _ _ _ _).mono ?_; rintro e w' ⟨rfl, hd1⟩)
      · go_roundw
        case rel =>
          have hb : n / 2 ^ j % 2 = 1 := of_decide_eq_true ((bit_test n j h2).symm.trans (by assumption))
          exact ⟨j, _, _, _, by omega, by omega, rfl, rfl, runP_yes HR.out hb, (hd.trans (by assumption)).trans hd1⟩
        case measure => simp [intOf]
      · go_roundw
        case rel =>
          have hb : ¬ n / 2 ^ j % 2 = 1 := of_decide_eq_false ((bit_test n j h2).symm.trans (by assumption))
          exact ⟨j, _, _, _, by omega, by omega, rfl, rfl, runP_no HR.out hb, hd.trans hd1⟩
        case measure => simp [intOf]

theorem power_low (a b : Nat) (m0 : Int) (h0 : m0 < 1) (w : World) : Calls Try.prog 25 #[.complex .f64 a b, .int .i64 m0] w fun e w' => e = .returned (.complex .f64 4607182418800017408 0) ∧ w = w' := by
  go_enter Try.func25, Try.ntmps25
  go_wp2
  go_ret
  exact ⟨rfl, rfl⟩

theorem rpower_low (a b : Nat) (m0 : Int) (h0 : m0 < 1) (w : World) : Calls Try.prog 26 #[.complex .f64 a b, .int .i64 m0] w fun e w' => e = .returned (.complex .f64 4607182418800017408 0) ∧ w = w' := by
  have hmin : min m0 4096 = m0 := by omega
  go_enter Try.func26, Try.ntmps26
  go_wp2
  go_ret
  exact ⟨rfl, rfl⟩

theorem top_test (n k : Nat) (h1 : 1 ≤ n) : 0 < (n : Int) / 2 ^ (k + 1) ↔ k + 1 ≤ n.log2 := by
  have e : ((n : Int) / 2 ^ (k + 1)) = ((n / 2 ^ (k + 1) : Nat) : Int) := by simp
  rw [e, Nat.le_log2 (by omega)]
  have hp := Nat.two_pow_pos (k + 1)
  constructor
  · intro h
    have : 0 < n / 2 ^ (k + 1) := by omega
    exact (Nat.div_pos_iff.1 this).2
  · intro h
    have : 0 < n / 2 ^ (k + 1) := Nat.div_pos h hp
    omega

/-- What holds while the twin looks for the highest bit. -/
def TopRel (n : Nat) (t : Value) : Prop := ∃ k : Nat, k ≤ n.log2 ∧ t = .int .i64 k

set_option maxHeartbeats 400000 in
theorem rpower_pos (a b n : Nat) (m0 : Int) (h0 : 1 ≤ m0) (hmin : min m0 4096 = (n : Int)) (w : World) : Calls Try.prog 26 #[.complex .f64 a b, .int .i64 m0] w fun e w' => e = .returned (.complex .f64 (powC (a, b) n).1 (powC (a, b) n).2) ∧ Dr w w' := by
  have h1 : 1 ≤ n := by omega
  have h2 : n ≤ 4096 := by omega
  have hlg := log2_le12 h1 h2
  go_enter Try.func26, Try.ntmps26
  go_wp2_with fail
  clear hmin
  go_loop [5] (fun t => TopRel n t) (fun t => n.log2 - (intOf t).toNat)
  case atStart => exact ⟨0, Nat.zero_le _, rfl⟩
  case round =>
    obtain ⟨k, hk, rfl⟩ := hrel
    go_wp2_with fail
    · go_round
      case rel =>
        have ht : k + 1 ≤ n.log2 := (top_test n k h1).1 (by assumption)
        exact ⟨k + 1, ht, by go_num⟩
      case measure =>
        have ht : k + 1 ≤ n.log2 := (top_test n k h1).1 (by assumption)
        simp [intOf]
        omega
    · have hk2 : k = n.log2 := by
        have ht := mt (top_test n k h1).2 (by have : (n : Int) / 2 ^ (k + 1) ≤ 0 := by assumption
                                              omega)
        omega
      subst hk2
      clear hk
      go_loopw [6, 7] (fun c i wr => PowRel (a, b) n w c i wr) (fun _ i _ => (intOf i + 1).toNat)
      case atStart => exact ⟨n.log2, a, b, _, hlg, by omega, rfl, rfl, rfl, Dr.refl _⟩
      case round =>
        obtain ⟨k, x, y, m, hk, hm, rfl, rfl, hrun, hd⟩ := hrel
        have HR := Lib.hid hrun
        clear hrun
        by_cases hz : m = -1
        · subst hz
          go_wp2
          go_ret
          have hk0 : k = 0 := by omega
          subst hk0
          have hr := HR.out
          simp only [runP] at hr
          exact ⟨ret_cplx (congrArg Prod.fst hr) (congrArg Prod.snd hr), hd⟩
        · obtain ⟨j, rfl⟩ : ∃ j : Nat, m = j := ⟨m.toNat, by omega⟩
          have hk' : k = j + 1 := by omega
          subst hk'
          clear hm hz
          go_wp2_with (go_at_call 22; refine (rmul_any _ _ _ _ _).mono ?_; rintro e w' ⟨rfl, hd1⟩)
          · go_roundw
            case rel =>
              have hb : n / 2 ^ j % 2 = 1 := of_decide_eq_true ((bit_test n j h2).symm.trans (by assumption))
              exact ⟨j, _, _, _, by omega, by omega, rfl, rfl, runP_yes HR.out hb, (hd.trans (by assumption)).trans hd1⟩
            case measure => simp [intOf]
          · go_roundw
            case rel =>
              have hb : ¬ n / 2 ^ j % 2 = 1 := of_decide_eq_false ((bit_test n j h2).symm.trans (by assumption))
              exact ⟨j, _, _, _, by omega, by omega, rfl, rfl, runP_no HR.out hb, hd.trans hd1⟩
            case measure => simp [intOf]

end Go.Proofs.Ytmpninbkhaacoaa
