/-
  What the twins of package word's functions (the statements' own package) return, for every input: contracts that the proofs of this seat's laws share. No conditions.
-/
import Derived.Test.YtbmnhngkmokklaaWord
namespace Go.Proofs.Ytbmnhngkmokklaa
open Go.RowKit Go.Bit Go.Flo

theorem get_step_bits (x F M g : Nat) (hx : x < 18446744073709551616) (hF : F + (M + 1) ≤ 64) (hG : getN x (F + 1) M = g) :
    bits BinOp.or IntKind.u64 (IntKind.u64.wrap ((g : Int) * 2)) (bits BinOp.and IntKind.u64 ((x : Int) / 2 ^ F) 1) = ((getN x F (M + 1) : Nat) : Int) := by
  have h1 := getN_step x F M
  have h2 := getN_lt x F (M + 1)
  have h3 := pow_le64 (M + 1) (by omega)
  rw [hG] at h1
  have hb : x / 2 ^ F % 2 < 2 := Nat.mod_lt _ (by decide)
  rw [div_cast, and_one _ (div_lt64 _ _ hx), or_bit g _ (by omega) hb, h1]

/-- What holds at the head of every round of the twin's loop: the bits from k on are got. -/
def GetRel (x f n : Nat) (v i : Value) : Prop :=
  ∃ (k : Nat) (m : Int), k ≤ n ∧ m + 1 = k ∧ v = .int .u64 (getN x (f + k) (n - k) : Nat) ∧ i = .int .i64 m

theorem set_step_bits (x f k v g : Nat) (hx : x < 18446744073709551616) (hv : v < 18446744073709551616) (h : f + (k + 1) ≤ 64) (hG : setN x f k v = g) :
    bits BinOp.or IntKind.u64 (bits BinOp.andNot IntKind.u64 (g : Int) (IntKind.u64.wrap (2 ^ (f + k)))) (IntKind.u64.wrap (bits BinOp.and IntKind.u64 ((v : Int) / 2 ^ k) 1 * 2 ^ (f + k))) = ((setN x f (k + 1) v : Nat) : Int) := by
  have h1 := setN_step x f k v hx h
  have hg := setN_lt x f k v hx (by omega)
  have hp := shl_field 1 (f + k) 1 (by omega) (by decide)
  have hb := shl_field (v / 2 ^ k % 2) (f + k) 1 (by omega) (Nat.mod_lt _ (by decide))
  have l1 := field_lt (f + k) 1 (by omega) 1 (by decide)
  have l2 := field_lt (f + k) 1 (by omega) (v / 2 ^ k % 2) (Nat.mod_lt _ (by decide))
  have e : ((1 : Nat) : Int) * 2 ^ (f + k) = 2 ^ (f + k) := by simp
  rw [e, Nat.one_mul] at hp
  rw [Nat.one_mul] at l1
  rw [hG] at h1 hg
  rw [div_cast, and_one _ (div_lt64 _ _ hv), hb, hp, u64_andNot_nat _ _ hg l1, u64_or_nat _ _ (and_lt64 _ _ hg) l2, h1]

/-- What holds at the head of every round of the twin's loop: the lowest k bits are set. -/
def SetRel (x f n v : Nat) (y i : Value) : Prop :=
  ∃ k : Nat, k ≤ n ∧ y = .int .u64 (setN x f k v : Nat) ∧ i = .int .i64 k

/-- What holds at the head of every round of the twin's loop: the lowest k bits are counted. -/
def OnesRel (x : Nat) (c i : Value) : Prop :=
  ∃ k : Nat, k ≤ 64 ∧ c = .int .i64 (ones x k : Nat) ∧ i = .int .i64 k

set_option maxHeartbeats 400000 in
theorem rones_any (x : Nat) (hx : x < 18446744073709551616) (w : World) : Calls Try.prog 44 #[.int .u64 x] w fun e w' => e = .returned (.int .i64 (ones x 64 : Nat)) ∧ w = w' := by
  go_enter Try.func44, Try.ntmps44
  go_wp2_with fail
  go_loop [3, 5] (fun c i => OnesRel x c i) (fun _ i => 64 - (intOf i).toNat)
  case atStart => exact ⟨0, by decide, rfl, rfl⟩
  case round =>
    obtain ⟨k, hk, rfl, rfl⟩ := hrel
    by_cases hz : k = 64
    · subst hz
      go_wp2
      go_ret
      exact ⟨rfl, rfl⟩
    · have hlt : (k : Int) < 64 := by omega
      have hle := ones_le x k
      have hb : bits BinOp.and IntKind.u64 ((x : Int) / 2 ^ k) 1 = ((x / 2 ^ k % 2 : Nat) : Int) := by
        rw [div_cast, and_one _ (div_lt64 _ _ hx)]
      generalize hG : ones x k = g at hle
      go_wp2_with fail
      go_round
      case rel =>
        refine ⟨k + 1, by omega, ?_, rfl⟩
        rw [ones, hG]
        congr 1
      case measure => simp [intOf]; omega

theorem low_here (x k : Nat) (hk : k < 64) (c : x / 2 ^ k % 2 = 1) : lowFrom x k (64 - k) = k := by
  obtain ⟨m, hm⟩ : ∃ m, 64 - k = m + 1 := ⟨63 - k, by omega⟩
  rw [hm, lowFrom, if_pos c]

theorem low_next (x k : Nat) (hk : k < 64) (c : ¬ x / 2 ^ k % 2 = 1) : lowFrom x k (64 - k) = lowFrom x (k + 1) (64 - (k + 1)) := by
  obtain ⟨m, hm⟩ : ∃ m, 64 - k = m + 1 := ⟨63 - k, by omega⟩
  have e : 64 - (k + 1) = m := by omega
  rw [hm, e, lowFrom, if_neg c]

/-- What holds at the head of every round of the twin's loop: no bit below k is 1. -/
def LowRel (x : Nat) (i : Value) : Prop :=
  ∃ k : Nat, k ≤ 64 ∧ lowFrom x k (64 - k) = low x ∧ i = .int .i64 k

end Go.Proofs.Ytbmnhngkmokklaa
