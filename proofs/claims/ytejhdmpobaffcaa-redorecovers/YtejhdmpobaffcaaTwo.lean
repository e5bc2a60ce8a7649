/-
  SameWords, do2, and what follows of a crash. No conditions but what a device is.
-/
import Derived.Test.YtejhdmpobaffcaaArgs
namespace Go.Proofs.Ytejhdmpobaffcaa
open Go.RowKit Go.Flo
set_option maxRecDepth 100000

set_option maxHeartbeats 1000000 in
theorem same_any (w : World) (g o c g' o' c' k : Nat) (a b : Nat → Int) (hk : k ≤ 65536) (ha : ∀ j, j < k → w.cell? ⟨g, o + j, none⟩ = some (.int .u64 (a j))) (hb : ∀ j, j < k → w.cell? ⟨g', o' + j, none⟩ = some (.int .u64 (b j))) :
    Calls Try.prog 23 #[.slice (some ⟨g, o, none⟩) k c, .slice (some ⟨g', o', none⟩) k c'] w fun e w' => e = .returned (.bool (eqB k a b)) ∧ Dr w w' := by
  have HA := Lib.hid ha
  have HB := Lib.hid hb
  clear ha hb
  go_enter Try.func23, Try.ntmps23
  go_wp2
  go_loopw [13] (fun x wr => EqRel w k a b x wr) (fun x _ => k - (intOf x).toNat)
  case atStart => exact ⟨0, by omega, rfl, fun i hi => by omega, Dr.refl _⟩
  case round =>
    obtain ⟨j, hj, rfl, heq, hd⟩ := hrel
    have HE := Lib.hid heq
    clear heq
    obtain ⟨m, rfl⟩ := hd
    by_cases hlt : j < k
    · have ca := HA.out j hlt
      have cb := HB.out j hlt
      by_cases hab : a j = b j
      · rw [hab] at ca
        have HAB := Lib.hid hab
        clear hab
        go_wp2
        go_quiet (fail)
        go_wp2
        go_roundw
        case rel => exact ⟨j + 1, by omega, by go_num, fun i hi => by
          rcases Nat.lt_or_ge i j with h | h
          · exact HE.out i h
          · rw [show i = j by omega]; exact HAB.out, Dr.drewN _ _⟩
        case measure => simp [intOf]; omega
      · have hne : (a j != b j) = true := by simpa using hab
        have HN := Lib.hid hab
        clear hab
        go_wp2
        go_quiet (fail)
        go_wp2
        go_ret
        exact ⟨by rw [eqB_no hlt HN.out]; rfl, (Dr.drewN _ _).trans (Dr.drewN _ _)⟩
    · have hjk : j = k := by omega
      subst hjk
      go_wp2
      go_ret
      exact ⟨by rw [eqB_true.2 HE.out]; rfl, Dr.drewN _ _⟩

theorem same_rows (w : World) (t t' g n cap g' cap' : Nat) (a b : Nat → Int) (hn : n ≤ 65536) (ha : Row w t g n cap (u64 a)) (hb : Row w t' g' n cap' (u64 b)) (he : ∀ i, i < n → a i = b i) :
    Calls Try.prog 23 #[.slice (some ⟨g, 0, none⟩) n cap, .slice (some ⟨g', 0, none⟩) n cap'] w fun e w' => e = .returned (.bool true) ∧ Dr w w' := by
  have h := same_any w g 0 cap g' 0 cap' n a b hn (fun j hj => by rw [Nat.zero_add]; exact ha.cell hj) (fun j hj => by rw [Nat.zero_add]; exact hb.cell hj)
  rw [eqB_true.2 he] at h
  exact h

set_option maxHeartbeats 1000000 in
theorem same_none (w : World) (A A' : Option Addr) (c c' : Nat) :
    Calls Try.prog 23 #[.slice A 0 c, .slice A' 0 c'] w fun e w' => e = .returned (.bool true) ∧ Dr w w' := by
  go_enter Try.func23, Try.ntmps23
  go_wp2
  go_loopw [13] (fun x wr => x = .int .i64 0 ∧ Dr w wr) (fun x _ => 0)
  case atStart => exact ⟨rfl, Dr.refl _⟩
  case round =>
    obtain ⟨rfl, hd⟩ := hrel
    go_wp2
    go_ret
    exact ⟨rfl, hd⟩

/-- What do2 makes of a device. -/
def do2S (S : St) (c : CallV) : St := if c.d = 0 then storeS S c.t c.u else flushS S c.t

/-- A device that has power, and no fuse. -/
def Calm (S : St) : Prop := S.off = false ∧ S.fuse = 0

theorem Calm.step {S : St} (h : Calm S) : Calm (stepS S) := by
  obtain ⟨h1, h2⟩ := h
  simp [Calm, stepS, h1, h2]
theorem Calm.store {S : St} (h : Calm S) (x v : Int) : Calm (storeS S x v) := by
  unfold storeS
  split
  · exact Calm.step (S := putS S x.toNat v) h
  · exact h.step
theorem Calm.flush {S : St} (h : Calm S) (x : Int) : Calm (flushS S x) := by
  unfold flushS
  split
  · exact h.step
  · exact h.step
theorem Calm.do2 {S : St} (h : Calm S) (c : CallV) : Calm (do2S S c) := by
  unfold do2S
  split
  · exact h.store _ _
  · exact h.flush _
theorem store_n (S : St) (x v : Int) : (storeS S x v).n = S.n := by unfold storeS; split <;> rfl
theorem store_steps' (S : St) (x v : Int) : (storeS S x v).steps = S.steps + 1 := by unfold storeS; split <;> rfl
theorem flush_n (S : St) (x : Int) : (flushS S x).n = S.n := by unfold flushS; split <;> rfl
theorem flush_steps' (S : St) (x : Int) : (flushS S x).steps = S.steps + 1 := by unfold flushS; split <;> rfl
theorem do2_n (S : St) (c : CallV) : (do2S S c).n = S.n := by 
  unfold do2S
  split
  · exact store_n _ _ _
  · exact flush_n _ _
theorem do2_steps (S : St) (c : CallV) : (do2S S c).steps = S.steps + 1 := by 
  unfold do2S
  split
  · exact store_steps' _ _ _
  · exact flush_steps' _ _

/-- A line that a crash passes by reads as it is sure. -/
theorem nc_false {S : St} {i : Nat} (h : nc S (i / 8) = false) (hi' : i < S.n) : S.now i = S.sure i := by
  have hd : dirtyB S (i / 8) = false := by unfold nc at h; cases e : S.fl (i / 8) <;> simp_all
  unfold dirtyB at hd
  have he : eqB (hi S.n (i / 8) - lo (i / 8)) (fun j => S.now (lo (i / 8) + j)) (fun j => S.sure (lo (i / 8) + j)) = true := by simpa using hd
  have := eqB_true.1 he (i - lo (i / 8)) (by unfold hi lo; omega)
  have e : lo (i / 8) + (i - lo (i / 8)) = i := by unfold lo; omega
  simpa [e] using this

theorem used_le (S : St) (l : Nat) : used S l ≤ l := by
  induction l with
  | zero => simp [used]
  | succ n ih => simp only [used]; split <;> omega

theorem fin_all {S : St} {p : Nat → Int} (hp : ∀ j, j < 5 → p j = 1) (hn : S.n ≤ 40) {i : Nat} (hi' : i < S.n) : fin S p i = S.now i := by
  unfold fin
  cases h : nc S (i / 8)
  · simp [nc_false h hi']
  · have hu := used_le S (i / 8)
    have b1 : bit0 1 = true := by kernel_rfl
    simp [choose, hp _ (show used S (i / 8) < 5 by omega), b1]

/-- A crash behind a crash. -/
theorem fin_again (S : St) (p q : Nat → Int) (i : Nat) : fin (crashS S p) q i = fin S p i := by
  have h : nc (crashS S p) (i / 8) = false := by
    unfold nc dirtyB
    have : eqB (hi S.n (i / 8) - lo (i / 8)) (fun j => fin S p (lo (i / 8) + j)) (fun j => fin S p (lo (i / 8) + j)) = true := eqB_true.2 (fun _ _ => rfl)
    simpa [crashS] using this
  show (if nc (crashS S p) (i / 8) then _ else _) = _
  rw [h]
  rfl
end Go.Proofs.Ytejhdmpobaffcaa
