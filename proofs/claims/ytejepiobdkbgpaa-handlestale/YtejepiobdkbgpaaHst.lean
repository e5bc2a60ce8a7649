/-
  HandleStale: what holds behind each call. No conditions.
-/
import Derived.Test.YtejepiobdkbgpaaHmp
import Derived.Test.YtejepiobdkbgpaaHn2
namespace Go.Proofs.Ytejepiobdkbgpaa
open Go.RowKit Go.Flo
set_option maxRecDepth 100000

/-- Handles that were told, what they stood for, which of them were dropped. -/
structure Inv13 (S : Nat → Slt) (isH : Int → Bool) (isC goC : Int → Int) (T : List Int) (i : Nat) : Prop where
  age : ∀ k, (S k).a ≤ i
  told : ∀ x ∈ T, isH x = true
  old : ∀ x, isH x = true → goC x = 1 → ∃ k a : Nat, k < 64 ∧ x = a * 64 + k ∧ a < (S k).a
  hit : ∀ x, isH x = true → goC x ≠ 1 → ∃ k, Hit S x k ∧ (S k).o = isC x
  new : ∀ x, isH x = false → goC x ≠ 1

theorem Inv13.first : Inv13 noS (fun _ => false) (fun _ => 0) (fun _ => 0) [] 0 :=
  ⟨fun _ => Nat.le_refl _, fun x h => (by cases h), fun x h => (by cases h), fun x h => (by cases h), fun x _ h => (by cases h)⟩
theorem Inv13.next {S : Nat → Slt} {isH : Int → Bool} {isC goC : Int → Int} {T : List Int} {i : Nat} (h : Inv13 S isH isC goC T i) : Inv13 S isH isC goC T (i + 1) :=
  ⟨fun k => by have := h.age k; omega, h.told, h.old, h.hit, h.new⟩

/-- A handle of a free slot was never told. -/
theorem Inv13.fresh {S : Nat → Slt} {isH : Int → Bool} {isC goC : Int → Int} {T : List Int} {i n : Nat} (h : Inv13 S isH isC goC T i) (hn : n < 64) (hf : (S n).t = false) : isH (((S n).a : Int) * 64 + n) = false := by
  cases hh : isH (((S n).a : Int) * 64 + n) with
  | false => rfl
  | true =>
    by_cases hg : goC (((S n).a : Int) * 64 + n) = 1
    · obtain ⟨k, a, hk, e, ha⟩ := h.old _ hh hg
      have hkn : k = n := by omega
      subst hkn
      omega
    · obtain ⟨k, ⟨hk, ht, e⟩, _⟩ := h.hit _ hh hg
      have hkn : k = n := by omega
      subst hkn
      rw [hf] at ht
      cases ht

theorem Inv13.put {S : Nat → Slt} {isH : Int → Bool} {isC goC : Int → Int} {T : List Int} {i n : Nat} (h : Inv13 S isH isC goC T i) (hn : n < 64) (hf : (S n).t = false) (x : Int) :
    Inv13 (putS S n x) (putH isH (((S n).a : Int) * 64 + n)) (putC isC (((S n).a : Int) * 64 + n) x) goC (T ++ [((S n).a : Int) * 64 + n]) (i + 1) := by
  have hfr := h.fresh hn hf
  have hag : ∀ k, (putS S n x k).a = (S k).a := by
    intro k
    unfold putS
    by_cases hk : k = n
    · subst hk; simp
    · rw [if_neg hk]
  generalize hH : ((S n).a : Int) * 64 + n = H at *
  have hor : ∀ y, putH isH H y = true → y = H ∨ (y ≠ H ∧ isH y = true) := by
    intro y hy
    by_cases e : y = H
    · exact Or.inl e
    · unfold putH at hy
      simp [e] at hy
      exact Or.inr ⟨e, hy⟩
  refine ⟨fun k => by rw [hag]; have := h.age k; omega, ?_, ?_, ?_, ?_⟩
  · intro y hy
    rcases List.mem_append.1 hy with hy | hy
    · unfold putH; rw [h.told y hy]; simp
    · rw [List.mem_singleton] at hy
      unfold putH; simp [hy]
  · intro y hy hg
    rcases hor y hy with rfl | ⟨_, hy⟩
    · exact absurd hg (h.new _ hfr)
    · obtain ⟨k, a, h1, h2, h3⟩ := h.old y hy hg
      exact ⟨k, a, h1, h2, by rw [hag]; exact h3⟩
  · intro y hy hg
    rcases hor y hy with rfl | ⟨hne, hy⟩
    · refine ⟨n, ⟨hn, ?_, ?_⟩, ?_⟩
      · unfold putS; simp
      · rw [hag]; exact hH.symm
      · unfold putS putC; simp
    · obtain ⟨k, ⟨h1, h2, h3⟩, h4⟩ := h.hit y hy hg
      have hkn : k ≠ n := fun e => by rw [e, hf] at h2; cases h2
      refine ⟨k, ⟨h1, ?_, ?_⟩, ?_⟩
      · unfold putS; rw [if_neg hkn]; exact h2
      · rw [hag]; exact h3
      · unfold putS putC; rw [if_neg hkn, if_neg hne]; exact h4
  · intro y hy
    refine h.new y ?_
    unfold putH at hy
    rw [Bool.or_eq_false_iff] at hy
    exact hy.2

theorem Inv13.drop {S : Nat → Slt} {isH : Int → Bool} {isC goC : Int → Int} {T : List Int} {i k : Nat} {H : Int} (h : Inv13 S isH isC goC T i) (hH : isH H = true) (hk : Hit S H k) :
    Inv13 (dropS S k) isH isC (putC goC H 1) T (i + 1) := by
  have hag : ∀ j, (S j).a ≤ (dropS S k j).a := by
    intro j
    unfold dropS
    by_cases hj : j = k
    · subst hj; simp
    · rw [if_neg hj]; exact Nat.le_refl _
  refine ⟨?_, h.told, ?_, ?_, ?_⟩
  · intro j
    unfold dropS
    by_cases hjk : j = k
    · subst hjk; simp; exact h.age j
    · rw [if_neg hjk]; have := h.age j; omega
  · intro y hy hg
    by_cases e : y = H
    · subst e
      exact ⟨k, (S k).a, hk.1, hk.2.2, by unfold dropS; simp⟩
    · unfold putC at hg
      rw [if_neg e] at hg
      obtain ⟨j, a, h1, h2, h3⟩ := h.old y hy hg
      exact ⟨j, a, h1, h2, Nat.lt_of_lt_of_le h3 (hag j)⟩
  · intro y hy hg
    by_cases e : y = H
    · subst e
      unfold putC at hg
      rw [if_pos rfl] at hg
      exact absurd rfl hg
    · unfold putC at hg
      rw [if_neg e] at hg
      obtain ⟨j, ⟨h1, h2, h3⟩, h4⟩ := h.hit y hy hg
      have hjk : j ≠ k := fun ejk => by subst ejk; exact e (h3.trans hk.2.2.symm)
      refine ⟨j, ⟨h1, ?_, ?_⟩, ?_⟩
      · unfold dropS; rw [if_neg hjk]; exact h2
      · unfold dropS; rw [if_neg hjk]; exact h3
      · unfold dropS; rw [if_neg hjk]; exact h4
  · intro y hy
    by_cases e : y = H
    · subst e; rw [hH] at hy; cases hy
    · unfold putC
      rw [if_neg e]
      exact h.new y hy

theorem Inv13.gone {S : Nat → Slt} {isH : Int → Bool} {isC goC : Int → Int} {T : List Int} {i : Nat} {H : Int} (h : Inv13 S isH isC goC T i) (hH : isH H = true) (hg : goC H = 1) : ∀ k, ¬ Hit S H k := by
  rintro k ⟨h1, h2, h3⟩
  obtain ⟨j, a, e1, e2, e3⟩ := h.old H hH hg
  have hjk : j = k := by omega
  subst hjk
  omega

theorem Inv13.small {S : Nat → Slt} {isH : Int → Bool} {isC goC : Int → Int} {T : List Int} {i : Nat} {H : Int} (h : Inv13 S isH isC goC T i) (hi : i ≤ 200) (hH : isH H = true) : 0 ≤ H ∧ H ≤ 20000 := by
  by_cases hg : goC H = 1
  · obtain ⟨k, a, h1, h2, h3⟩ := h.old H hH hg
    have := h.age k
    omega
  · obtain ⟨k, ⟨h1, _, h3⟩, _⟩ := h.hit H hH hg
    have := h.age k
    omega

/-- The memory of HandleStale. -/
structure Ord13 (w : World) (g p q B : Nat) : Prop where
  wg : w.heap.size ≤ g
  gp : g < p
  pq : p < q
  qB : q < B

structure Mem13 (w : World) (g p q B i : Nat) (S : Nat → Slt) (isH : Int → Bool) (isC goC : Int → Int) (T : List Int) (v : Value) (wr : World) : Prop where
  tab : Tab wr g S
  mis : ∃ sz, IMap wr p i isH isC sz
  mgo : ∃ h sz, IMap wr q i h goC sz
  row : wr.ownsRow B 3 1 v T.length (T.map i64v)
  kp : Keep [] w wr
  le : B ≤ wr.heap.size

section
variable {w wr w' : World} {g p q B i : Nat} {S S' : Nat → Slt} {isH isH' : Int → Bool} {isC goC isC' goC' : Int → Int} {T T' : List Int} {v v' : Value}
theorem Mem13.next (M : Mem13 w g p q B i S isH isC goC T v wr) : Mem13 w g p q B (i + 1) S isH isC goC T v wr := by
  obtain ⟨sz, h1⟩ := M.mis
  obtain ⟨h, sz', h2⟩ := M.mgo
  exact { M with mis := ⟨sz, h1.mono (by omega)⟩, mgo := ⟨h, sz', h2.mono (by omega)⟩ }
theorem Mem13.keep0 (M : Mem13 w g p q B i S isH isC goC T v wr) (hk : Keep [] wr w') : Mem13 w g p q B i S isH isC goC T v w' := by
  obtain ⟨sz, h1⟩ := M.mis
  obtain ⟨h, sz', h2⟩ := M.mgo
  exact ⟨M.tab.keep hk (by simp), ⟨sz, h1.keep hk (by simp)⟩, ⟨h, sz', h2.keep hk (by simp)⟩, ownsRow_keep M.row hk (by simp), M.kp.trans hk, Nat.le_trans M.le hk.size⟩
theorem Mem13.withTab (M : Mem13 w g p q B i S isH isC goC T v wr) (O : Ord13 w g p q B) (hk : Keep [g] wr w') (ht : Tab w' g S') : Mem13 w g p q B i S' isH isC goC T v w' := by
  obtain ⟨sz, h1⟩ := M.mis
  obtain ⟨h, sz', h2⟩ := M.mgo
  have := O.wg; have := O.gp; have := O.pq; have := O.qB
  exact ⟨ht, ⟨sz, h1.keep hk (by simp; omega)⟩, ⟨h, sz', h2.keep hk (by simp; omega)⟩, ownsRow_keep M.row hk (by simp; omega), keep_since M.kp hk (by simp; omega), Nat.le_trans M.le hk.size⟩
theorem Mem13.withIs (M : Mem13 w g p q B i S isH isC goC T v wr) (O : Ord13 w g p q B) (hk : Keep [p] wr w') {sz : Nat} (hm : IMap w' p (i + 1) isH' isC' sz) : Mem13 w g p q B (i + 1) S isH' isC' goC T v w' := by
  obtain ⟨h, sz', h2⟩ := M.mgo
  have := O.wg; have := O.gp; have := O.pq; have := O.qB
  exact ⟨M.tab.keep hk (by simp; omega), ⟨sz, hm⟩, ⟨h, sz', (h2.keep hk (by simp; omega)).mono (by omega)⟩, ownsRow_keep M.row hk (by simp; omega), keep_since M.kp hk (by simp; omega), Nat.le_trans M.le hk.size⟩
theorem Mem13.withGo (M : Mem13 w g p q B i S isH isC goC T v wr) (O : Ord13 w g p q B) (hk : Keep [q] wr w') {h : Int → Bool} {sz : Nat} (hm : IMap w' q (i + 1) h goC' sz) : Mem13 w g p q B (i + 1) S isH isC goC' T v w' := by
  obtain ⟨sz', h2⟩ := M.mis
  have := O.wg; have := O.gp; have := O.pq; have := O.qB
  exact ⟨M.tab.keep hk (by simp; omega), ⟨sz', (h2.keep hk (by simp; omega)).mono (by omega)⟩, ⟨h, sz, hm⟩, ownsRow_keep M.row hk (by simp; omega), keep_since M.kp hk (by simp; omega), Nat.le_trans M.le hk.size⟩
theorem Mem13.withRow (M : Mem13 w g p q B i S isH isC goC T v wr) (O : Ord13 w g p q B) (hr : w'.ownsRow B 3 1 v' T'.length (T'.map i64v)) (hg : wr.grownBy w' v.ownBlock) : Mem13 w g p q B i S isH isC goC T' v' w' := by
  obtain ⟨own, hk, ho⟩ := grown_own M.row hg
  obtain ⟨sz, h1⟩ := M.mis
  obtain ⟨h, sz', h2⟩ := M.mgo
  have := O.wg; have := O.gp; have := O.pq; have := O.qB
  exact ⟨M.tab.keep hk (fun hm => by have := ho _ hm; omega), ⟨sz, h1.keep hk (fun hm => by have := ho _ hm; omega)⟩, ⟨h, sz', h2.keep hk (fun hm => by have := ho _ hm; omega)⟩, hr, keep_since M.kp hk (fun k hm => by have := ho _ hm; omega), Nat.le_trans M.le hk.size⟩
end
end Go.Proofs.Ytejepiobdkbgpaa
