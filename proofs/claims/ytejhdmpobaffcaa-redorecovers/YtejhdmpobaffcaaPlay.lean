/-
  A row of steps of a device, till the first error; a log's steps. Plain facts, no Go text in sight. No conditions.
-/
import Derived.Test.YtejhdmpobaffcaaTwo
namespace Go.Proofs.Ytejhdmpobaffcaa
open Go.RowKit Go.Flo

/-- A step of a device. -/
inductive Stp where
  | st (x v : Int)
  | fl (x : Int)
  | fe

def opS (S : St) : Stp → St
  | .st x v => storeS S x v
  | .fl x => flushS S x
  | .fe => fenceS S
def opA (S : St) : Stp → Int
  | .st x _ => ans (stepS S).off (hasB S.n x)
  | .fl x => ans (stepS S).off (hasB S.n x)
  | .fe => ans (stepS S).off true
def opOk (n : Nat) : Stp → Bool
  | .st x _ => hasB n x
  | .fl x => hasB n x
  | .fe => true

/-- Steps, till the first error. -/
def play (S : St) : List Stp → St × Int
  | [] => (S, 0)
  | o :: os => if opA S o = 0 then play (opS S o) os else (opS S o, opA S o)

theorem fence_n (S : St) : (fenceS S).n = S.n := by unfold fenceS; split <;> rfl
theorem fence_steps (S : St) : (fenceS S).steps = S.steps + 1 := by unfold fenceS; split <;> rfl
theorem op_n (S : St) (o : Stp) : (opS S o).n = S.n := by
  cases o
  · exact store_n _ _ _
  · exact flush_n _ _
  · exact fence_n _
theorem op_steps (S : St) (o : Stp) : (opS S o).steps = S.steps + 1 := by
  cases o
  · exact store_steps' _ _ _
  · exact flush_steps' _ _
  · exact fence_steps _

theorem play_one (S : St) (o : Stp) : play S [o] = (opS S o, opA S o) := by
  simp only [play]
  split
  · rename_i h; rw [h]
  · rfl

theorem play_append (S : St) (a b : List Stp) : play S (a ++ b) = if (play S a).2 = 0 then play (play S a).1 b else play S a := by
  induction a generalizing S with
  | nil => simp [play]
  | cons o os ih =>
    simp only [List.cons_append, play]
    split
    · exact ih _
    · rename_i h
      simp only [if_neg h]

theorem play_more {S S' : St} {a : List Stp} (h : play S a = (S', 0)) (b : List Stp) : play S (a ++ b) = play S' b := by
  rw [play_append, h]; rfl
theorem play_stop {S S' : St} {e : Int} {a : List Stp} (h : play S a = (S', e)) (he : e ≠ 0) (b : List Stp) : play S (a ++ b) = (S', e) := by
  rw [play_append, h]; simp [he]

theorem play_inv {I : St → Prop} (os : List Stp) (h : ∀ o ∈ os, ∀ S, I S → I (opS S o)) (S : St) (hS : I S) : I (play S os).1 := by
  induction os generalizing S with
  | nil => exact hS
  | cons o os ih =>
    simp only [play]
    split
    · exact ih (fun p hp => h p (List.mem_cons_of_mem _ hp)) _ (h o (List.mem_cons_self ..) S hS)
    · exact h o (List.mem_cons_self ..) S hS

theorem play_n (S : St) (os : List Stp) : (play S os).1.n = S.n := play_inv (I := fun T => T.n = S.n) os (fun o _ T hT => (op_n T o).trans hT) S rfl
theorem play_steps (S : St) (os : List Stp) : S.steps ≤ (play S os).1.steps ∧ (play S os).1.steps ≤ S.steps + os.length := by
  induction os generalizing S with
  | nil => simp [play]
  | cons o os ih =>
    have h1 := op_steps S o
    simp only [play, List.length_cons]
    split
    · have := ih (opS S o); omega
    · dsimp only; omega

theorem opA_ok {S : St} {o : Stp} (h : opOk S.n o = true) : opA S o = if (stepS S).off then 7 else 0 := by
  cases o <;> simp_all [opA, opOk, ans]
theorem opA_zero {S : St} {o : Stp} (h : opA S o = 0) : (stepS S).off = false ∧ opOk S.n o = true := by
  cases o <;> simp only [opA, opOk, ans] at h ⊢ <;> (revert h; cases (stepS S).off <;> simp)
theorem step_off {S : St} (h : (stepS S).off = false) : S.off = false := by
  simp [stepS] at h; exact h.1

theorem play_ans {os : List Stp} {S : St} (hv : ∀ o ∈ os, opOk S.n o = true) : (play S os).2 = 0 ∨ (play S os).2 = 7 := by
  induction os generalizing S with
  | nil => left; rfl
  | cons o os ih =>
    simp only [play]
    have h1 := opA_ok (hv o (List.mem_cons_self ..))
    split
    · exact ih (fun p hp => by rw [op_n]; exact hv p (List.mem_cons_of_mem _ hp))
    · rename_i h
      dsimp only
      cases ho : (stepS S).off
      · rw [h1, ho] at h; exact absurd rfl h
      · rw [h1, ho]; exact .inr rfl

theorem Calm.fence {S : St} (h : Calm S) : Calm (fenceS S) := by
  unfold fenceS
  split
  · exact h.step
  · exact h.step
theorem Calm.op {S : St} (h : Calm S) (o : Stp) : Calm (opS S o) := by
  cases o
  · exact h.store _ _
  · exact h.flush _
  · exact h.fence

theorem play_calm {os : List Stp} {S : St} (hv : ∀ o ∈ os, opOk S.n o = true) (hc : Calm S) : (play S os).2 = 0 ∧ Calm (play S os).1 ∧ (play S os).1.steps = S.steps + os.length := by
  induction os generalizing S with
  | nil => exact ⟨rfl, hc, by simp [play]⟩
  | cons o os ih =>
    have h1 := opA_ok (hv o (List.mem_cons_self ..))
    rw [hc.step.1] at h1
    have h2 := op_steps S o
    simp only [play]
    rw [if_pos (by rw [h1]; rfl)]
    obtain ⟨a, b, c⟩ := ih (S := opS S o) (fun p hp => by rw [op_n]; exact hv p (List.mem_cons_of_mem _ hp)) (hc.op o)
    exact ⟨a, b, by rw [c, h2]; simp; omega⟩

/-- An entry. -/
structure Ent where
  a : Int
  v : Int

/-- The entries are stored in the log. -/
def stores (f : Int) (E : Nat → Ent) : Nat → List Stp
  | 0 => []
  | k + 1 => stores f E k ++ [.st (f + 8 + 2 * k) (E k).a, .st (f + 8 + 2 * k + 1) (E k).v]
/-- Lines of the log are flushed. -/
def lines (f : Int) : Nat → List Stp
  | 0 => []
  | k + 1 => lines f k ++ [.fl (f + 8 + 8 * k)]
def layOps (f : Int) (E : Nat → Ent) (n : Nat) : List Stp := stores f E n ++ (lines f ((2 * n + 7) / 8) ++ [.fe])
def markOps (f v : Int) : List Stp := [.st f v, .fl f, .fe]
def doStores (E : Nat → Ent) : Nat → List Stp
  | 0 => []
  | k + 1 => doStores E k ++ [.st (E k).a (E k).v]
/-- Is a line that of an entry ahead? -/
def seenB (E : Nat → Ent) (k : Nat) (l : Nat) : Bool := (List.range k).any fun j => (E j).a.toNat / 8 == l
def doFl (E : Nat → Ent) : Nat → List Stp
  | 0 => []
  | k + 1 => doFl E k ++ (if seenB E k ((E k).a.toNat / 8) then [] else [.fl (E k).a])
def doOps (E : Nat → Ent) (n : Nat) : List Stp := doStores E n ++ (doFl E n ++ [.fe])
def recOps (f : Int) (E : Nat → Ent) (n : Nat) : List Stp := doOps E n ++ markOps f 0
def wrOps (f : Int) (E : Nat → Ent) (n : Nat) : List Stp := layOps f E n ++ (markOps f n ++ recOps f E n)

theorem seenB_true {E : Nat → Ent} {k l : Nat} : seenB E k l = true ↔ ∃ j, j < k ∧ (E j).a.toNat / 8 = l := by simp [seenB]
theorem seenB_succ (E : Nat → Ent) (k l : Nat) : seenB E (k + 1) l = (seenB E k l || ((E k).a.toNat / 8 == l)) := by
  rw [Bool.eq_iff_iff]
  simp only [Bool.or_eq_true, seenB_true, beq_iff_eq]
  constructor
  · rintro ⟨j, h1, h2⟩
    rcases Nat.lt_or_ge j k with h | h
    · exact .inl ⟨j, h, h2⟩
    · right; rw [show k = j by omega]; exact h2
  · rintro (⟨j, h1, h2⟩ | h)
    · exact ⟨j, by omega, h2⟩
    · exact ⟨k, by omega, h⟩

theorem hasB_of {n : Nat} {x : Int} (h0 : 0 ≤ x) (h1 : x < n) : hasB n x = true := by simp [hasB, h0, h1]

/-- Where a log lies, and its entries. -/
structure LogOk (N f t : Nat) (E : Nat → Ent) (n : Nat) : Prop where
  f8 : f % 8 = 0
  need : f + 8 + 2 * n ≤ t
  tN : t ≤ N
  at0 : ∀ j, j < n → 0 ≤ (E j).a ∧ (E j).a < N ∧ ¬ ((f : Int) ≤ (E j).a ∧ (E j).a < t)

section
variable {N f t n : Nat} {E : Nat → Ent}
theorem stores_ok (h : LogOk N f t E n) (k : Nat) (hk : k ≤ n) : ∀ o ∈ stores f E k, opOk N o = true := by
  induction k with
  | zero => intro o ho; cases ho
  | succ k ih =>
    have := h.need
    have := h.tN
    intro o ho
    simp only [stores, List.mem_append, List.mem_cons, List.not_mem_nil, or_false] at ho
    rcases ho with ho | rfl | rfl
    · exact ih (by omega) o ho
    · exact hasB_of (by omega) (by omega)
    · exact hasB_of (by omega) (by omega)
theorem lines_ok (h : LogOk N f t E n) (k : Nat) (hk : 8 * k < 2 * n + 8) : ∀ o ∈ lines f k, opOk N o = true := by
  induction k with
  | zero => intro o ho; cases ho
  | succ k ih =>
    have := h.need
    have := h.tN
    intro o ho
    simp only [lines, List.mem_append, List.mem_cons, List.not_mem_nil, or_false] at ho
    rcases ho with ho | rfl
    · exact ih (by omega) o ho
    · exact hasB_of (by omega) (by omega)
theorem mark_ok (h : LogOk N f t E n) (v : Int) : ∀ o ∈ markOps f v, opOk N o = true := by
  have := h.need
  have := h.tN
  intro o ho
  simp only [markOps, List.mem_cons, List.not_mem_nil, or_false] at ho
  rcases ho with rfl | rfl | rfl
  · exact hasB_of (by omega) (by omega)
  · exact hasB_of (by omega) (by omega)
  · rfl
theorem doStores_ok (h : LogOk N f t E n) (k : Nat) (hk : k ≤ n) : ∀ o ∈ doStores E k, opOk N o = true := by
  induction k with
  | zero => intro o ho; cases ho
  | succ k ih =>
    have := h.at0 k (by omega)
    intro o ho
    simp only [doStores, List.mem_append, List.mem_cons, List.not_mem_nil, or_false] at ho
    rcases ho with ho | rfl
    · exact ih (by omega) o ho
    · exact hasB_of (by omega) (by omega)
theorem doFl_ok (h : LogOk N f t E n) (k : Nat) (hk : k ≤ n) : ∀ o ∈ doFl E k, opOk N o = true := by
  induction k with
  | zero => intro o ho; cases ho
  | succ k ih =>
    have := h.at0 k (by omega)
    intro o ho
    simp only [doFl, List.mem_append] at ho
    rcases ho with ho | ho
    · exact ih (by omega) o ho
    · split at ho
      · cases ho
      · simp only [List.mem_cons, List.not_mem_nil, or_false] at ho
        subst ho
        exact hasB_of (by omega) (by omega)
theorem layOps_ok (h : LogOk N f t E n) : ∀ o ∈ layOps f E n, opOk N o = true := by
  intro o ho
  simp only [layOps, List.mem_append, List.mem_cons, List.not_mem_nil, or_false] at ho
  rcases ho with ho | ho | rfl
  · exact stores_ok h n (Nat.le_refl _) o ho
  · exact lines_ok h _ (by omega) o ho
  · rfl
theorem doOps_ok (h : LogOk N f t E n) : ∀ o ∈ doOps E n, opOk N o = true := by
  intro o ho
  simp only [doOps, List.mem_append, List.mem_cons, List.not_mem_nil, or_false] at ho
  rcases ho with ho | ho | rfl
  · exact doStores_ok h n (Nat.le_refl _) o ho
  · exact doFl_ok h n (Nat.le_refl _) o ho
  · rfl
theorem recOps_ok (h : LogOk N f t E n) : ∀ o ∈ recOps f E n, opOk N o = true := by
  intro o ho
  simp only [recOps, List.mem_append] at ho
  rcases ho with ho | ho
  · exact doOps_ok h o ho
  · exact mark_ok h _ o ho
theorem wrOps_ok (h : LogOk N f t E n) : ∀ o ∈ wrOps f E n, opOk N o = true := by
  intro o ho
  simp only [wrOps, List.mem_append] at ho
  rcases ho with ho | ho | ho
  · exact layOps_ok h o ho
  · exact mark_ok h _ o ho
  · exact recOps_ok h o ho
end

theorem stores_len (f : Int) (E : Nat → Ent) (k : Nat) : (stores f E k).length = 2 * k := by
  induction k with
  | zero => rfl
  | succ k ih => simp [stores, ih]; omega
theorem lines_len (f : Int) (k : Nat) : (lines f k).length = k := by
  induction k with
  | zero => rfl
  | succ k ih => simp [lines, ih]
theorem doStores_len (E : Nat → Ent) (k : Nat) : (doStores E k).length = k := by
  induction k with
  | zero => rfl
  | succ k ih => simp [doStores, ih]
theorem doFl_len (E : Nat → Ent) (k : Nat) : (doFl E k).length ≤ k := by
  induction k with
  | zero => simp [doFl]
  | succ k ih => simp only [doFl, List.length_append]; split <;> simp <;> omega
theorem recOps_len (f : Int) (E : Nat → Ent) (n : Nat) : (recOps f E n).length = n + (doFl E n).length + 4 := by
  simp [recOps, doOps, markOps, doStores_len]; omega
theorem wrOps_len (f : Int) (E : Nat → Ent) (n : Nat) : (wrOps f E n).length = 2 * n + (2 * n + 7) / 8 + n + (doFl E n).length + 8 := by
  have := recOps_len f E n
  simp [wrOps, layOps, markOps, stores_len, lines_len, this]; omega

/-! What each word may be behind a crash. -/

/-- All that a crash may leave of a word. -/
def Pic (P : Int → Prop) (S : St) (i : Nat) : Prop := P (S.now i) ∧ P (S.sure i) ∧ (S.fl (i / 8) = true → P (S.tk i))
/-- A word reads v, and a fence makes it sure so. -/
def Got (v : Int) (S : St) (i : Nat) : Prop := S.now i = v ∧ (S.fl (i / 8) = true → S.tk i = v) ∧ (S.fl (i / 8) = false → S.sure i = v)

section
variable {P Q : Int → Prop} {S : St} {i : Nat} {v : Int}
theorem Pic.mono (h : Pic P S i) (hPQ : ∀ x, P x → Q x) : Pic Q S i := ⟨hPQ _ h.1, hPQ _ h.2.1, fun hf => hPQ _ (h.2.2 hf)⟩
theorem Pic.got (h : Pic (· = v) S i) : Got v S i := ⟨h.1, h.2.2, fun _ => h.2.1⟩
theorem Pic.store (h : Pic P S i) (x y : Int) (hy : x = i → P y) : Pic P (storeS S x y) i := by
  unfold storeS
  split
  · rename_i hc
    simp only [Bool.and_eq_true] at hc
    have h0 := hasB_true hc.2
    refine ⟨?_, h.2.1, h.2.2⟩
    show P (if i = x.toNat then y else S.now i)
    split
    · exact hy (by omega)
    · exact h.1
  · exact h
theorem Pic.flush (h : Pic P S i) (x : Int) : Pic P (flushS S x) i := by
  unfold flushS
  split
  · refine ⟨h.1, h.2.1, ?_⟩
    show (if i / 8 = x.toNat / 8 then true else S.fl (i / 8)) = true → P (if 8 * (x.toNat / 8) ≤ i ∧ i < 8 * (x.toNat / 8) + 8 then S.now i else S.tk i)
    by_cases hl : i / 8 = x.toNat / 8
    · rw [if_pos hl, if_pos (by omega)]
      exact fun _ => h.1
    · rw [if_neg hl, if_neg (by omega)]
      exact h.2.2
  · exact h
theorem Pic.fence (h : Pic P S i) : Pic P (fenceS S) i := by
  unfold fenceS
  split
  · exact h
  · refine ⟨h.1, ?_, fun hf => by cases hf⟩
    show P (if S.fl (i / 8) = true then S.tk i else S.sure i)
    split
    · rename_i hf; exact h.2.2 hf
    · exact h.2.1
theorem Pic.fin_ (h : Pic P S i) (p : Nat → Int) : P (fin S p i) := by
  unfold fin
  split
  · unfold choose
    split
    · exact h.1
    · split
      · rename_i hc
        simp only [Bool.and_eq_true] at hc
        exact h.2.2 hc.2
      · exact h.2.1
  · exact h.2.1
theorem Pic.crash (h : Pic P S i) (p : Nat → Int) : Pic P (crashS S p) i := ⟨h.fin_ p, h.fin_ p, fun hf => by cases hf⟩
theorem Pic.fuse (h : Pic P S i) (x : Int) : Pic P (fuseS S x) i := h
theorem Got.store (h : Got v S i) (x y : Int) (hy : x = i → y = v) : Got v (storeS S x y) i := by
  unfold storeS
  split
  · rename_i hc
    simp only [Bool.and_eq_true] at hc
    have h0 := hasB_true hc.2
    refine ⟨?_, h.2.1, h.2.2⟩
    show (if i = x.toNat then y else S.now i) = v
    split
    · exact hy (by omega)
    · exact h.1
  · exact h
theorem Got.flush (h : Got v S i) (x : Int) : Got v (flushS S x) i := by
  unfold flushS
  split
  · refine ⟨h.1, ?_, ?_⟩
    · show (if i / 8 = x.toNat / 8 then true else S.fl (i / 8)) = true → (if 8 * (x.toNat / 8) ≤ i ∧ i < 8 * (x.toNat / 8) + 8 then S.now i else S.tk i) = v
      by_cases hl : i / 8 = x.toNat / 8
      · rw [if_pos hl, if_pos (by omega)]
        exact fun _ => h.1
      · rw [if_neg hl, if_neg (by omega)]
        exact h.2.1
    · show (if i / 8 = x.toNat / 8 then true else S.fl (i / 8)) = false → S.sure i = v
      split
      · exact fun hf => by cases hf
      · exact h.2.2
  · exact h
/-- A line that is flushed. -/
theorem got_flush {x : Int} (hn : S.now i = v) (ho : (stepS S).off = false) (hx : hasB S.n x = true) (hl : x.toNat / 8 = i / 8) : Got v (flushS S x) i := by
  unfold flushS
  rw [if_pos (by simp [ho, hx])]
  refine ⟨hn, ?_, ?_⟩
  · show _ → (if 8 * (x.toNat / 8) ≤ i ∧ i < 8 * (x.toNat / 8) + 8 then S.now i else S.tk i) = v
    rw [if_pos (by omega)]
    exact fun _ => hn
  · show (if i / 8 = x.toNat / 8 then true else S.fl (i / 8)) = false → S.sure i = v
    rw [if_pos hl.symm]
    exact fun hf => by cases hf
theorem Got.fence_ok (h : Got v S i) (ho : (stepS S).off = false) : Pic (· = v) (fenceS S) i := by
  unfold fenceS
  rw [if_neg (by simp [ho])]
  refine ⟨h.1, ?_, fun hf => by cases hf⟩
  show (if S.fl (i / 8) = true then S.tk i else S.sure i) = v
  split
  · rename_i hf; exact h.2.1 hf
  · rename_i hf; exact h.2.2 (by simpa using hf)
theorem flush_now (S : St) (x : Int) (i : Nat) : (flushS S x).now i = S.now i := by unfold flushS; split <;> rfl
theorem fence_now (S : St) (i : Nat) : (fenceS S).now i = S.now i := by unfold fenceS; split <;> rfl
theorem store_now {x y : Int} (ho : (stepS S).off = false) (hx : hasB S.n x = true) (i : Nat) : (storeS S x y).now i = if (i : Int) = x then y else S.now i := by
  have h0 := hasB_true hx
  unfold storeS
  rw [if_pos (by simp [step_off ho, hx])]
  show (if i = x.toNat then y else S.now i) = _
  by_cases h : i = x.toNat
  · rw [if_pos h, if_pos (by omega)]
  · rw [if_neg h, if_neg (by omega)]
end

/-- Steps one behind the other that all went well. -/
theorem play_split {S : St} {a b : List Stp} (h : (play S (a ++ b)).2 = 0) : (play S a).2 = 0 ∧ (play (play S a).1 b).2 = 0 ∧ (play S (a ++ b)).1 = (play (play S a).1 b).1 := by
  rw [play_append] at h ⊢
  by_cases h1 : (play S a).2 = 0
  · rw [if_pos h1] at h ⊢
    exact ⟨h1, h, rfl⟩
  · rw [if_neg h1] at h
    exact absurd h h1
theorem play_snoc {S : St} {a : List Stp} {o : Stp} (h : (play S (a ++ [o])).2 = 0) : (play S a).2 = 0 ∧ opA (play S a).1 o = 0 ∧ (play S (a ++ [o])).1 = opS (play S a).1 o := by
  obtain ⟨h1, h2, h3⟩ := play_split h
  rw [play_one] at h2 h3
  exact ⟨h1, h2, h3⟩

/-- What entries make of words. -/
def upd (A : Nat → Int) (E : Nat → Ent) : Nat → Nat → Int
  | 0 => A
  | k + 1 => fun i => if (i : Int) = (E k).a then (E k).v else upd A E k i
def isAt (E : Nat → Ent) (n i : Nat) : Prop := ∃ j, j < n ∧ (E j).a = i
theorem upd_not {A : Nat → Int} {E : Nat → Ent} {n i : Nat} (h : ¬ isAt E n i) : upd A E n i = A i := by
  induction n with
  | zero => rfl
  | succ n ih =>
    have h1 : ¬ (i : Int) = (E n).a := fun e => h ⟨n, by omega, e.symm⟩
    simp only [upd, if_neg h1]
    exact ih (fun ⟨j, a, b⟩ => h ⟨j, by omega, b⟩)
theorem upd_at {A B : Nat → Int} {E : Nat → Ent} {n i : Nat} (h : isAt E n i) : upd A E n i = upd B E n i := by
  induction n with
  | zero => obtain ⟨j, hj, _⟩ := h; omega
  | succ n ih =>
    simp only [upd]
    split
    · rfl
    · rename_i h1
      obtain ⟨j, hj, e⟩ := h
      rcases Nat.lt_or_ge j n with h2 | h2
      · exact ih ⟨j, h2, e⟩
      · rw [show j = n by omega] at e
        exact absurd e.symm h1

theorem doStores_now {S : St} {E : Nat → Ent} {k : Nat} (h : (play S (doStores E k)).2 = 0) (i : Nat) : (play S (doStores E k)).1.now i = upd S.now E k i := by
  induction k with
  | zero => rfl
  | succ k ih =>
    simp only [doStores] at h ⊢
    obtain ⟨h1, h2, h3⟩ := play_snoc h
    obtain ⟨h4, h5⟩ := opA_zero h2
    rw [h3]
    show (storeS _ _ _).now i = _
    rw [store_now h4 h5, ih h1]
    rfl

theorem doFl_now (S : St) (E : Nat → Ent) (k i : Nat) : (play S (doFl E k)).1.now i = S.now i :=
  play_inv (I := fun T => T.now i = S.now i) _ (fun o ho T hT => by
    have : ∃ x, o = .fl x := by
      induction k with
      | zero => cases ho
      | succ k ih =>
        simp only [doFl, List.mem_append] at ho
        rcases ho with ho | ho
        · exact ih ho
        · split at ho
          · cases ho
          · simp at ho; exact ⟨_, ho⟩
    obtain ⟨x, rfl⟩ := this
    exact (flush_now T x i).trans hT) S rfl

theorem doFl_fl {E : Nat → Ent} {k : Nat} {o : Stp} (ho : o ∈ doFl E k) : ∃ x, o = .fl x := by
  induction k with
  | zero => cases ho
  | succ k ih =>
    simp only [doFl, List.mem_append] at ho
    rcases ho with ho | ho
    · exact ih ho
    · split at ho
      · cases ho
      · simp at ho; exact ⟨_, ho⟩
theorem lines_fl {f : Int} {k : Nat} {o : Stp} (ho : o ∈ lines f k) : ∃ x, o = .fl x := by
  induction k with
  | zero => cases ho
  | succ k ih =>
    simp only [lines, List.mem_append] at ho
    rcases ho with ho | ho
    · exact ih ho
    · simp at ho; exact ⟨_, ho⟩
theorem lines_now (S : St) (f : Int) (k i : Nat) : (play S (lines f k)).1.now i = S.now i :=
  play_inv (I := fun T => T.now i = S.now i) _ (fun o ho T hT => by obtain ⟨x, rfl⟩ := lines_fl ho; exact (flush_now T x i).trans hT) S rfl

theorem doFl_got {S : St} {E : Nat → Ent} {k : Nat} (h : (play S (doFl E k)).2 = 0) {i : Nat} (hi' : seenB E k (i / 8) = true) : Got (S.now i) (play S (doFl E k)).1 i := by
  induction k with
  | zero => simp [seenB] at hi'
  | succ k ih =>
    rw [seenB_succ] at hi'
    simp only [Bool.or_eq_true, beq_iff_eq] at hi'
    simp only [doFl] at h ⊢
    by_cases hs : seenB E k ((E k).a.toNat / 8) = true
    · rw [if_pos hs] at h ⊢
      rw [List.append_nil] at h ⊢
      rcases hi' with hi' | hi'
      · exact ih h hi'
      · rw [hi'] at hs; exact ih h hs
    · rw [if_neg hs] at h ⊢
      obtain ⟨h1, h2, h3⟩ := play_snoc h
      obtain ⟨h4, h5⟩ := opA_zero h2
      rw [h3]
      show Got _ (flushS _ _) i
      rcases hi' with hi' | hi'
      · exact (ih h1 hi').flush _
      · exact got_flush (doFl_now S E k i) h4 h5 hi'

theorem lines_got {S : St} {f k : Nat} (f8 : f % 8 = 0) (h : (play S (lines f k)).2 = 0) {i : Nat} (h0 : f + 8 ≤ i) (h1 : i < f + 8 + 8 * k) : Got (S.now i) (play S (lines f k)).1 i := by
  induction k with
  | zero => omega
  | succ k ih =>
    simp only [lines] at h ⊢
    obtain ⟨e1, h2, h3⟩ := play_snoc h
    obtain ⟨h4, h5⟩ := opA_zero h2
    rw [h3]
    show Got _ (flushS _ _) i
    by_cases hi' : i < f + 8 + 8 * k
    · exact (ih e1 hi').flush _
    · exact got_flush (lines_now S f k i) h4 h5 (by omega)

theorem stores_now {S : St} {f : Nat} {E : Nat → Ent} {k : Nat} (h : (play S (stores f E k)).2 = 0) : ∀ j, j < k → (play S (stores f E k)).1.now (f + 8 + 2 * j) = (E j).a ∧ (play S (stores f E k)).1.now (f + 8 + 2 * j + 1) = (E j).v := by
  induction k with
  | zero => intro j hj; omega
  | succ k ih =>
    simp only [stores] at h ⊢
    rw [show ([.st ((f : Int) + 8 + 2 * k) (E k).a, .st ((f : Int) + 8 + 2 * k + 1) (E k).v] : List Stp) = [.st ((f : Int) + 8 + 2 * k) (E k).a] ++ [.st ((f : Int) + 8 + 2 * k + 1) (E k).v] from rfl, ← List.append_assoc] at h ⊢
    obtain ⟨e1, e2, e3⟩ := play_snoc h
    obtain ⟨g1, g2, g3⟩ := play_snoc e1
    obtain ⟨a1, a2⟩ := opA_zero e2
    obtain ⟨b1, b2⟩ := opA_zero g2
    intro j hj
    rw [e3]
    show (storeS _ _ _).now _ = _ ∧ (storeS _ _ _).now _ = _
    rw [store_now a1 a2, store_now a1 a2, g3]
    show (if _ then _ else (storeS _ _ _).now _) = _ ∧ (if _ then _ else (storeS _ _ _).now _) = _
    rw [store_now b1 b2, store_now b1 b2]
    by_cases hjk : j = k
    · subst hjk
      rw [if_neg (by omega), if_pos (by omega), if_pos (by omega)]
      exact ⟨rfl, rfl⟩
    · rw [if_neg (by omega), if_neg (by omega), if_neg (by omega), if_neg (by omega)]
      exact ih g1 j (by omega)
end Go.Proofs.Ytejhdmpobaffcaa
