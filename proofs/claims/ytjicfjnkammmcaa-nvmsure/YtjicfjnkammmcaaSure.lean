/-
  What is sure stays: the plain facts behind NvmSure. No conditions.
-/
import Derived.Test.YtjicfjnkammmcaaTwo
namespace Go.Proofs.Ytjicfjnkammmcaa
open Go.RowKit Go.Flo

/-- Stores alone: nothing is flushed. -/
structure Fresh (S : St) : Prop where
  n : S.n = 32
  calm : Calm S
  fl : ∀ l, S.fl l = false

theorem Fresh.store {S : St} (h : Fresh S) (x v : Int) : Fresh (storeS S x v) := by
  refine ⟨(store_n S x v).trans h.n, h.calm.store x v, fun l => ?_⟩
  unfold storeS
  split <;> exact h.fl l

/-- The first j lines are flushed as they read. -/
structure Flsd (S : St) (j : Nat) : Prop where
  n : S.n = 32
  calm : Calm S
  fl : ∀ l, S.fl l = decide (l < j)
  tk : ∀ i, i / 8 < j → S.tk i = S.now i

theorem Fresh.flsd {S : St} (h : Fresh S) : Flsd S 0 := ⟨h.n, h.calm, fun l => by rw [h.fl l]; simp, fun i hi => absurd hi (by omega)⟩

theorem flush_has {S : St} (hc : Calm S) (x : Nat) (hx : x < S.n) : flushS S x = takeS (stepS S) (x / 8) := by
  have hh : hasB S.n (x : Int) = true := by simp [hasB]; omega
  have ho := hc.step.1
  unfold flushS
  rw [hh, ho]
  simp

theorem Flsd.next {S : St} {j : Nat} (h : Flsd S j) (hj : j < 4) : Flsd (flushS S ((8 * j : Nat) : Int)) (j + 1) := by
  have hn := h.n
  rw [flush_has h.calm (8 * j) (by omega)]
  have e : 8 * j / 8 = j := by omega
  rw [e]
  refine ⟨hn, h.calm.step, fun l => ?_, fun i hi => ?_⟩
  · show (if l = j then true else S.fl l) = _
    by_cases hl : l = j
    · subst hl; simp
    · rw [if_neg hl, h.fl l]
      congr 1
      simp
      omega
  · show (if 8 * j ≤ i ∧ i < 8 * j + 8 then S.now i else S.tk i) = S.now i
    split
    · rfl
    · exact h.tk i (by omega)

/-- A line that was stored into since; all others are sure as they read. -/
structure SureSt (S : St) (q : Nat) (f0 : Nat → Int) (mf : Nat → Nat → Int) (cnt : Nat) : Prop where
  n : S.n = 32
  calm : Calm S
  sure : ∀ i, i < 32 → S.sure i = f0 i
  oth : ∀ i, i < 32 → i / 8 ≠ q → S.now i = f0 i
  flo : ∀ l, l ≠ q → S.fl l = false
  m0 : 0 < cnt ∧ ∀ i, i < 32 → mf 0 i = f0 i
  tkm : S.fl q = true → ∃ j, j < cnt ∧ ∀ i, i < 32 → mf j i = if i / 8 = q then S.tk i else f0 i

theorem fence_calm {S : St} (h : Calm S) : fenceS S = drainS (stepS S) := by
  unfold fenceS
  rw [h.step.1]
  simp

theorem Flsd.sure {S : St} (h : Flsd S 4) (q : Nat) : SureSt (fenceS S) q (fenceS S).sure (fun _ => (fenceS S).sure) 1 ∧ ∀ i, i < 32 → (fenceS S).now i = (fenceS S).sure i := by
  have hs : ∀ i, i < 32 → (fenceS S).now i = (fenceS S).sure i := by
    intro i hi
    rw [fence_calm h.calm]
    show S.now i = if S.fl (i / 8) = true then S.tk i else S.sure i
    have e : i / 8 < 4 := by omega
    rw [h.fl, decide_eq_true e, if_pos rfl, h.tk i e]
  refine ⟨⟨?_, ?_, fun _ _ => rfl, fun i hi _ => hs i hi, fun l _ => ?_, ⟨by omega, fun _ _ => rfl⟩, fun hf => ?_⟩, hs⟩
  · rw [fence_calm h.calm]; exact h.n
  · rw [fence_calm h.calm]; exact h.calm.step
  · rw [fence_calm h.calm]; rfl
  · rw [fence_calm h.calm] at hf; cases hf

theorem store_has {S : St} (hc : Calm S) (x : Nat) (v : Int) (hx : x < S.n) : storeS S x v = stepS (putS S x v) := by
  have hh : hasB S.n (x : Int) = true := by simp [hasB]; omega
  unfold storeS
  rw [hh, hc.1]
  simp

theorem SureSt.store {S : St} {q cnt : Nat} {f0 : Nat → Int} {mf : Nat → Nat → Int} (h : SureSt S q f0 mf cnt) (k : Nat) (v : Int) (hk : k / 8 = q) (hk2 : k < 32) : SureSt (storeS S k v) q f0 mf cnt := by
  have hn := h.n
  rw [store_has h.calm k v (by omega)]
  refine ⟨hn, Calm.step (S := putS S k v) h.calm, h.sure, fun i hi hq => ?_, h.flo, h.m0, h.tkm⟩
  show (if i = k then v else S.now i) = f0 i
  rw [if_neg (by intro e; subst e; exact hq hk)]
  exact h.oth i hi hq

/-- One more moment. -/
def more1 (mf : Nat → Nat → Int) (cnt : Nat) (g : Nat → Int) : Nat → Nat → Int := fun j => if j = cnt then g else mf j

theorem SureSt.flush {S : St} {q cnt : Nat} {f0 : Nat → Int} {mf : Nat → Nat → Int} (h : SureSt S q f0 mf cnt) (hq : q < 4) : SureSt (flushS S ((8 * q : Nat) : Int)) q f0 (more1 mf cnt S.now) (cnt + 1) := by
  have hn := h.n
  rw [flush_has h.calm (8 * q) (by omega)]
  have e : 8 * q / 8 = q := by omega
  rw [e]
  have h0 := h.m0
  refine ⟨hn, h.calm.step, h.sure, h.oth, fun l hl => ?_, ⟨by omega, fun i hi => ?_⟩, fun _ => ⟨cnt, by omega, fun i hi => ?_⟩⟩
  · show (if l = q then true else S.fl l) = false
    rw [if_neg hl]
    exact h.flo l hl
  · unfold more1
    rw [if_neg (by omega)]
    exact h0.2 i hi
  · unfold more1
    rw [if_pos rfl]
    show S.now i = if i / 8 = q then (if 8 * q ≤ i ∧ i < 8 * q + 8 then S.now i else S.tk i) else f0 i
    by_cases hi2 : i / 8 = q
    · rw [if_pos hi2, if_pos (by omega)]
    · rw [if_neg hi2]
      exact h.oth i hi hi2

theorem nc_clean {S : St} {l : Nat} (hf : S.fl l = false) (hc : ∀ i, i < S.n → i / 8 = l → S.now i = S.sure i) : nc S l = false := by
  unfold nc dirtyB
  have : eqB (hi S.n l - lo l) (fun j => S.now (lo l + j)) (fun j => S.sure (lo l + j)) = true := by
    rw [eqB_true]
    intro j hj
    exact hc _ (by unfold hi lo at *; omega) (by unfold hi lo at *; omega)
  rw [hf, this]
  rfl

/-- Behind a crash all is of one moment. -/
theorem SureSt.crash {S : St} {q cnt : Nat} {f0 : Nat → Int} {mf : Nat → Nat → Int} (h : SureSt S q f0 mf cnt) (p : Nat → Int) :
    ∃ j, j < cnt + 1 ∧ ∀ i, i < 32 → fin S p i = more1 mf cnt S.now j i := by
  have h0 := h.m0
  have hn := h.n
  have oth : ∀ i, i < 32 → i / 8 ≠ q → fin S p i = f0 i := by
    intro i hi hq
    unfold Go.Proofs.Ytjicfjnkammmcaa.fin
    rw [nc_clean (h.flo _ hq) (fun i' h1 h2 => by rw [h.oth i' (by omega) (by rw [h2]; exact hq), h.sure i' (by omega)])]
    exact h.sure i hi
  have m0 : ∀ i, i < 32 → more1 mf cnt S.now 0 i = f0 i := by
    intro i hi
    unfold more1
    rw [if_neg (by omega)]
    exact h0.2 i hi
  have mN : ∀ i, more1 mf cnt S.now cnt i = S.now i := fun i => by unfold more1; rw [if_pos rfl]
  cases hnc : nc S q
  · refine ⟨0, by omega, fun i hi => ?_⟩
    rw [m0 i hi]
    by_cases hq : i / 8 = q
    · unfold Go.Proofs.Ytjicfjnkammmcaa.fin
      rw [hq, hnc]
      exact h.sure i hi
    · exact oth i hi hq
  · cases b0 : bit0 (p (used S q))
    · cases b1 : (bit1 (p (used S q)) && S.fl q)
      · refine ⟨0, by omega, fun i hi => ?_⟩
        rw [m0 i hi]
        by_cases hq : i / 8 = q
        · unfold Go.Proofs.Ytjicfjnkammmcaa.fin choose
          rw [hq, hnc, b0, b1]
          exact h.sure i hi
        · exact oth i hi hq
      · obtain ⟨j, hj, hm⟩ := h.tkm (by simp only [Bool.and_eq_true] at b1; exact b1.2)
        refine ⟨j, by omega, fun i hi => ?_⟩
        unfold more1
        rw [if_neg (by omega), hm i hi]
        by_cases hq : i / 8 = q
        · rw [if_pos hq]
          unfold Go.Proofs.Ytjicfjnkammmcaa.fin choose
          rw [hq, hnc, b0, b1]
          rfl
        · rw [if_neg hq]
          exact oth i hi hq
    · refine ⟨cnt, by omega, fun i hi => ?_⟩
      rw [mN i]
      by_cases hq : i / 8 = q
      · unfold Go.Proofs.Ytjicfjnkammmcaa.fin choose
        rw [hq, hnc, b0]
        rfl
      · rw [oth i hi hq, h.oth i hi hq]
end Go.Proofs.Ytjicfjnkammmcaa
