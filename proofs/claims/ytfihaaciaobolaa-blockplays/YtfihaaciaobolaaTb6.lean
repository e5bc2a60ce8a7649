/-
  What is free when a block is taken, and given back: plain facts; the laws' numbers of words. No conditions but each theorem's own.
-/
import Derived.Test.YtfihaaciaobolaaTb5
namespace Go.Proofs.Ytfihaaciaobolaa
open Go.RowKit Go.Flo Go.Bit Go.Bmp
set_option maxRecDepth 100000

theorem nt_upd (T : Nat → Bool) (i : Nat) (b : Bool) : nt (upd T i b) = upd (nt T) i (!b) := by
  funext j
  unfold nt upd
  split <;> rfl

theorem upd_back {T : Nat → Bool} {i : Nat} (h : T i = false) : upd (upd T i true) i false = T := by
  funext j
  unfold upd
  by_cases e : j = i
  · subst e; simp [h]
  · simp [e]

theorem cnt_at (T : Nat → Bool) (i m : Nat) (h : T i = false) (hi : i < m) : cnt (nt (upd T i true)) m + 1 = cnt (nt T) m := by
  have := cnt_upd (nt T) i false m hi
  rw [nt_upd]
  simp [nt, h] at this
  exact this

theorem cnt_off (T : Nat → Bool) (i m : Nat) (b : Bool) (hi : m ≤ i) : cnt (nt (upd T i b)) m = cnt (nt T) m := by
  rw [nt_upd]
  exact cnt_congr fun j hj => upd_far _ _ (by omega)

theorem fr_take (C : Cf) (T : Nat → Bool) (i k : Nat) (h : T i = false) (h1 : fo C k ≤ i) (h2 : i < fo C (k + 1)) : fr C (upd T i true) k + 1 = fr C T k := by
  unfold fr
  have e1 := cnt_at T i (fo C (k + 1)) h h2
  have e2 := cnt_off T i (fo C k) true h1
  have e3 := cnt_le2 (nt (upd T i true)) (show fo C k ≤ fo C (k + 1) by omega)
  omega

theorem cls_fo (C : Cf) (b : Nat) (hb : b < C.all) : fo C (C.cls b) ≤ b ∧ b < fo C (C.cls b + 1) := by
  have hm := C.mono
  unfold Cf.cls
  by_cases h1 : b < C.f1
  · rw [if_pos h1]
    exact ⟨Nat.zero_le _, h1⟩
  · rw [if_neg h1]
    by_cases h2 : b < C.f2
    · rw [if_pos h2]
      exact ⟨Nat.le_of_not_lt h1, h2⟩
    · rw [if_neg h2]
      by_cases h3 : b < C.f3
      · rw [if_pos h3]
        exact ⟨Nat.le_of_not_lt h2, h3⟩
      · rw [if_neg h3]
        exact ⟨Nat.le_of_not_lt h3, hb⟩

/-- Has a block's class so many words? -/
theorem cls_size (C : Cf) (b : Nat) (hb : b < C.all) (x : Int) (hx : x ≤ 16) : x ≤ ((2 * 2 ^ C.cls b : Nat) : Int) ↔ fo C (lc x) ≤ b := by
  rw [lc_size x _ hx]
  obtain ⟨h1, h2⟩ := cls_fo C b hb
  have hl := lc_le x
  have hmon : ∀ i d : Nat, fo C i ≤ fo C (i + d) := fun i d => by
    induction d with
    | zero => exact Nat.le_refl _
    | succ d ih => exact Nat.le_trans ih (fo_next C (i + d))
  constructor
  · intro h
    have := hmon (lc x) (C.cls b - lc x)
    rw [show lc x + (C.cls b - lc x) = C.cls b by omega] at this
    omega
  · intro h
    rcases Nat.lt_or_ge (C.cls b) (lc x) with hlt | hge
    · have := hmon (C.cls b + 1) (lc x - (C.cls b + 1))
      rw [show C.cls b + 1 + (lc x - (C.cls b + 1)) = lc x by omega] at this
      omega
    · exact hge

/-- So many words a law asks for. -/
def szW (x : Int) : Nat := (IntKind.u64.wrap x % 16).toNat + 1

theorem szW_le (x : Int) : 1 ≤ szW x ∧ szW x ≤ 16 := by unfold szW; omega

theorem szW_mod (x : Int) : (IntKind.u64.wrap x).tmod 16 = ((szW x - 1 : Nat) : Int) := by
  have := u64_range x
  unfold szW
  rw [Int.tmod_eq_emod_of_nonneg this.1]
  omega

/-- Four numbers in a row. -/
def four (a b c d : Nat) : Nat → Nat
  | 0 => a
  | 1 => b
  | 2 => c
  | _ => d

theorem four_fr (C : Cf) (T : Nat → Bool) (k : Nat) (hk : k < 4) : four (fr C T 0) (fr C T 1) (fr C T 2) (fr C T 3) k = fr C T k := by
  match k, hk with
  | 0, _ => rfl
  | 1, _ => rfl
  | 2, _ => rfl
  | 3, _ => rfl

theorem four_cell {w : World} {g : Nat} {t : TypeId} {a b c d : Nat} (h : Blk w g t #[.int .i64 a, .int .i64 b, .int .i64 c, .int .i64 d]) (k : Nat) (hk : k < 4) : w.cell? ⟨g, k, none⟩ = some (.int .i64 (four a b c d k : Nat)) := by
  match k, hk with
  | 0, _ => exact h.cell 0
  | 1, _ => exact h.cell 1
  | 2, _ => exact h.cell 2
  | 3, _ => exact h.cell 3

/-- The law's bits. -/
def usB (C : Cf) (len : Nat) (f : Nat → Nat) : Nat → Bool := cutB C.all (ofB 1000 len f)
end Go.Proofs.Ytfihaaciaobolaa
