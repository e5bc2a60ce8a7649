/-
  Graphs as plain data: which may be; the row of nodes as a walk comes to them; renumbering. No program is named here. Each theorem bears its own conditions.
-/
import Derived.Test.YtigclopkoolocaaDoorOv4
namespace Go.Flo
open Go.RowKit

/-- A node: its kind, its fields. -/
structure Nod where
  K : Int
  fs : List Val

structure Gr where
  nodes : List Nod
  roots : List Int
  weaks : List Int

def nod0 : Nod := ⟨0, []⟩
def Gr.at (g : Gr) (i : Nat) : Nod := g.nodes.getD i nod0
def Gr.n (g : Gr) : Nat := g.nodes.length

/-- What a node refers to. -/
def refsOf (x : List Val) : List Int := (x.filter fun v => v.K == 3).map (·.r)

def MayV (n : Nat) (v : Val) : Prop := 0 ≤ v.K ∧ v.K ≤ 3 ∧ (v.K = 3 → 0 ≤ v.r ∧ v.r < n)
instance (n : Nat) (v : Val) : Decidable (MayV n v) := by unfold MayV; infer_instance
def MayI (n : Nat) (r : Int) : Prop := -1 ≤ r ∧ r < n
instance (n : Nat) (r : Int) : Decidable (MayI n r) := by unfold MayI; infer_instance
/-- May a graph be? -/
def MayG (g : Gr) : Prop := g.n ≤ 4096 ∧ (∀ r ∈ g.roots, MayI g.n r) ∧ (∀ r ∈ g.weaks, MayI g.n r) ∧ ∀ x ∈ g.nodes, ∀ v ∈ x.fs, MayV g.n v
instance (g : Gr) : Decidable (MayG g) := by unfold MayG; infer_instance

/-- A node is put into the row, if there is such a one and it is not there yet. -/
def put (n : Nat) (row : List Nat) (i : Int) : List Nat := if 0 ≤ i ∧ i < n ∧ i.toNat ∉ row then row ++ [i.toNat] else row
def puts (n : Nat) (row : List Nat) (l : List Int) : List Nat := l.foldl (put n) row

/-- The walk from the place k of the row on. -/
def walkR (g : Gr) : Nat → Nat → List Nat → List Nat
  | 0, _, row => row
  | f + 1, k, row => if k < row.length then walkR g f (k + 1) (puts g.n row (refsOf (g.at (row.getD k 0)).fs)) else row

/-- Nodes as a walk comes to them. -/
def orderG (g : Gr) (l : List Int) : List Nat := walkR g (g.n + 1) 0 (puts g.n [] l)

/-- Each once, all of them there. -/
def Fine (n : Nat) (row : List Nat) : Prop := row.Nodup ∧ ∀ i ∈ row, i < n

theorem Fine.nil (n : Nat) : Fine n [] := ⟨List.nodup_nil, by simp⟩

theorem Fine.len : ∀ {n : Nat} {row : List Nat}, Fine n row → row.length ≤ n
  | 0, row, h => by
    cases row with
    | nil => simp
    | cons a l => have := h.2 a (by simp); omega
  | n + 1, row, h => by
    have h1 : Fine n (row.erase n) := ⟨h.1.erase n, fun i hi => by
      have h2 := (h.1.mem_erase_iff).1 hi
      have h3 := h.2 i h2.2
      have h4 := h2.1
      omega⟩
    have h2 := h1.len
    have h3 : row.length ≤ (row.erase n).length + 1 := by
      rw [List.length_erase]
      split <;> omega
    omega

theorem put_fine {n : Nat} {row : List Nat} (i : Int) (h : Fine n row) : Fine n (put n row i) := by
  unfold put
  split
  · rename_i hc
    refine ⟨?_, ?_⟩
    · rw [List.nodup_append]
      refine ⟨h.1, by simp, ?_⟩
      intro a ha b hb
      rw [List.mem_singleton] at hb
      subst hb
      intro e
      subst e
      exact hc.2.2 ha
    · intro a ha
      rcases List.mem_append.1 ha with ha | ha
      · exact h.2 a ha
      · rw [List.mem_singleton] at ha
        omega
  · exact h

theorem put_prefix (n : Nat) (row : List Nat) (i : Int) : row <+: put n row i := by
  unfold put
  split
  · exact List.prefix_append _ _
  · exact List.prefix_rfl

theorem put_mem {n : Nat} {row : List Nat} {i : Int} (h0 : 0 ≤ i) (h1 : i < n) : i.toNat ∈ put n row i := by
  unfold put
  by_cases h : i.toNat ∈ row
  · rw [if_neg (fun e => e.2.2 h)]; exact h
  · rw [if_pos ⟨h0, h1, h⟩]; simp

theorem put_only {n : Nat} {row : List Nat} {i : Int} {a : Nat} (h : a ∈ put n row i) : a ∈ row ∨ (0 ≤ i ∧ i < n ∧ a = i.toNat) := by
  unfold put at h
  split at h
  · rename_i hc
    rcases List.mem_append.1 h with h | h
    · exact Or.inl h
    · rw [List.mem_singleton] at h; exact Or.inr ⟨hc.1, hc.2.1, h⟩
  · exact Or.inl h

theorem puts_nil (n : Nat) (row : List Nat) : puts n row [] = row := rfl
theorem puts_cons (n : Nat) (row : List Nat) (i : Int) (l : List Int) : puts n row (i :: l) = puts n (put n row i) l := rfl
theorem puts_append (n : Nat) (row : List Nat) (a b : List Int) : puts n row (a ++ b) = puts n (puts n row a) b := by unfold puts; rw [List.foldl_append]

theorem puts_fine {n : Nat} : ∀ {l : List Int} {row : List Nat}, Fine n row → Fine n (puts n row l)
  | [], _, h => h
  | i :: l, _, h => by rw [puts_cons]; exact puts_fine (put_fine i h)

theorem puts_prefix (n : Nat) : ∀ (l : List Int) (row : List Nat), row <+: puts n row l
  | [], _ => List.prefix_rfl
  | i :: l, row => by rw [puts_cons]; exact (put_prefix n row i).trans (puts_prefix n l _)

theorem puts_mem {n : Nat} : ∀ {l : List Int} {row : List Nat} {i : Int}, i ∈ l → 0 ≤ i → i < n → i.toNat ∈ puts n row l
  | j :: l, row, i, h, h0, h1 => by
    rw [puts_cons]
    rcases List.mem_cons.1 h with rfl | h
    · exact (puts_prefix n l _).subset (put_mem h0 h1)
    · exact puts_mem h h0 h1

theorem puts_only {n : Nat} : ∀ {l : List Int} {row : List Nat} {a : Nat}, a ∈ puts n row l → a ∈ row ∨ ∃ i ∈ l, 0 ≤ i ∧ i < n ∧ a = i.toNat
  | [], _, _, h => Or.inl h
  | j :: l, row, a, h => by
    rw [puts_cons] at h
    rcases puts_only h with h | ⟨i, hi, hx⟩
    · rcases put_only h with h | h
      · exact Or.inl h
      · exact Or.inr ⟨j, by simp, h⟩
    · exact Or.inr ⟨i, by simp [hi], hx⟩

theorem walkR_done (g : Gr) (f k : Nat) (row : List Nat) (h : row.length ≤ k) : walkR g f k row = row := by
  cases f with
  | zero => rfl
  | succ f => unfold walkR; rw [if_neg (by omega)]

theorem walkR_step (g : Gr) (f k : Nat) (row : List Nat) (h : k < row.length) : walkR g (f + 1) k row = walkR g f (k + 1) (puts g.n row (refsOf (g.at (row.getD k 0)).fs)) := by
  rw [walkR, if_pos h]

theorem walkR_fine (g : Gr) : ∀ (f k : Nat) {row : List Nat}, Fine g.n row → Fine g.n (walkR g f k row)
  | 0, _, _, h => h
  | f + 1, k, row, h => by
    unfold walkR
    split
    · exact walkR_fine g f (k + 1) (puts_fine h)
    · exact h

theorem walkR_prefix (g : Gr) : ∀ (f k : Nat) (row : List Nat), row <+: walkR g f k row
  | 0, _, _ => List.prefix_rfl
  | f + 1, k, row => by
    unfold walkR
    split
    · exact (puts_prefix _ _ _).trans (walkR_prefix g f (k + 1) _)
    · exact List.prefix_rfl

theorem orderG_fine (g : Gr) (l : List Int) : Fine g.n (orderG g l) := walkR_fine g _ _ (puts_fine (Fine.nil _))

/-- Behind the walk each node of the row from k on has been looked at. -/
theorem walkR_shut (g : Gr) : ∀ (f k : Nat) {row : List Nat}, Fine g.n row → g.n < f + k → ∀ p, k ≤ p → p < (walkR g f k row).length → ∀ r ∈ refsOf (g.at ((walkR g f k row).getD p 0)).fs, 0 ≤ r → r < g.n → r.toNat ∈ walkR g f k row
  | 0, k, row, h, hf, p, hp, hl => by
    have := h.len
    unfold walkR at hl
    omega
  | f + 1, k, row, h, hf, p, hp, hl => by
    by_cases hk : k < row.length
    · rw [walkR_step g f k row hk] at hl ⊢
      have ih := walkR_shut g f (k + 1) (puts_fine (l := refsOf (g.at (row.getD k 0)).fs) h) (by omega)
      rcases Nat.lt_or_ge k p with hkp | hkp
      · exact ih p (by omega) hl
      · obtain rfl : p = k := by omega
        have hpre := (puts_prefix g.n (refsOf (g.at (row.getD p 0)).fs) row).trans (walkR_prefix g f (p + 1) _)
        have he : (walkR g f (p + 1) (puts g.n row (refsOf (g.at (row.getD p 0)).fs))).getD p 0 = row.getD p 0 := by
          obtain ⟨t, ht⟩ := hpre
          rw [← ht, List.getD_eq_getElem?_getD, List.getElem?_append_left hk, List.getD_eq_getElem?_getD]
        intro r hr h0 h1
        rw [he] at hr
        exact (walkR_prefix g f (p + 1) _).subset (puts_mem hr h0 h1)
    · rw [walkR_done g _ k row (by omega)] at hl
      omega

/-- What is reached is shut. -/
theorem orderG_shut (g : Gr) (l : List Int) {i : Nat} (hi : i ∈ orderG g l) {r : Int} (hr : r ∈ refsOf (g.at i).fs) (h0 : 0 ≤ r) (h1 : r < g.n) : r.toNat ∈ orderG g l := by
  obtain ⟨p, hp, he⟩ := List.getElem_of_mem hi
  refine walkR_shut g (g.n + 1) 0 (puts_fine (Fine.nil _)) (by omega) p (by omega) hp r ?_ h0 h1
  show r ∈ refsOf (g.at ((orderG g l).getD p 0)).fs
  rw [List.getD_eq_getElem?_getD, List.getElem?_eq_getElem hp]
  simp only [Option.getD_some]
  exact he ▸ hr

theorem orderG_roots (g : Gr) (l : List Int) {r : Int} (hr : r ∈ l) (h0 : 0 ≤ r) (h1 : r < g.n) : r.toNat ∈ orderG g l := (walkR_prefix g _ _ _).subset (puts_mem hr h0 h1)

/-- What holds of the nodes of l, and of all that one of which it holds refers to, holds of all that is reached. -/
theorem walkR_least (g : Gr) (S : Nat → Prop) (hS : ∀ i, S i → ∀ r ∈ refsOf (g.at i).fs, 0 ≤ r → r < g.n → S r.toNat) : ∀ (f k : Nat) {row : List Nat}, (∀ i ∈ row, S i) → ∀ i ∈ walkR g f k row, S i
  | 0, _, _, h => h
  | f + 1, k, row, h => by
    unfold walkR
    split
    · rename_i hk
      refine walkR_least g S hS f (k + 1) ?_
      intro i hi
      rcases puts_only hi with hi | ⟨r, hr, h0, h1, rfl⟩
      · exact h i hi
      · refine hS (row.getD k 0) (h _ ?_) r hr h0 h1
        rw [List.getD_eq_getElem?_getD, List.getElem?_eq_getElem hk]
        exact List.getElem_mem hk
    · exact h

theorem orderG_least (g : Gr) (l : List Int) (S : Nat → Prop) (hl : ∀ r ∈ l, 0 ≤ r → r < g.n → S r.toNat) (hS : ∀ i, S i → ∀ r ∈ refsOf (g.at i).fs, 0 ≤ r → r < g.n → S r.toNat) {i : Nat} (hi : i ∈ orderG g l) : S i := by
  refine walkR_least g S hS _ _ ?_ i hi
  intro a ha
  rcases puts_only ha with ha | ⟨r, hr, h0, h1, rfl⟩
  · simp at ha
  · exact hl r hr h0 h1

/-- How many rounds are left makes no difference, if there are enough. -/
theorem walkR_fuel (g : Gr) : ∀ (f f' k : Nat) {row : List Nat}, Fine g.n row → g.n < f + k → g.n < f' + k → walkR g f k row = walkR g f' k row
  | 0, f', k, row, h, hf, _ => by rw [walkR_done g f' k row (by have := h.len; omega)]; rfl
  | f + 1, 0, k, row, h, hf, hf' => by rw [walkR_done g (f + 1) k row (by have := h.len; omega)]; rfl
  | f + 1, f' + 1, k, row, h, hf, hf' => by
    by_cases hk : k < row.length
    · rw [walkR_step g f k row hk, walkR_step g f' k row hk]
      exact walkR_fuel g f f' (k + 1) (puts_fine h) (by omega) (by omega)
    · rw [walkR_done g _ k row (by omega), walkR_done g _ k row (by omega)]

/-- A place that is turned. -/
def mapI (s : Nat → Nat) (r : Int) : Int := if r < 0 then r else (s r.toNat : Nat)

theorem put_map {n n' : Nat} {s : Nat → Nat} {P : Nat → Prop} (hP : ∀ i, P i → i < n ∧ s i < n') (hs : ∀ i j, P i → P j → s i = s j → i = j) {row : List Nat} (hrow : ∀ i ∈ row, P i) {r : Int} (hr : r < 0 ∨ P r.toNat) :
    put n' (row.map s) (mapI s r) = (put n row r).map s ∧ ∀ i ∈ put n row r, P i := by
  unfold mapI
  rcases hr with hr | hr
  · rw [if_pos hr]
    unfold put
    rw [if_neg (by omega), if_neg (by omega)]
    exact ⟨rfl, hrow⟩
  by_cases h0 : r < 0
  · rw [if_pos h0]
    unfold put
    rw [if_neg (by omega), if_neg (by omega)]
    exact ⟨rfl, hrow⟩
  rw [if_neg h0]
  obtain ⟨i, rfl⟩ : ∃ i : Nat, r = i := ⟨r.toNat, by omega⟩
  rw [Int.toNat_natCast] at hr ⊢
  obtain ⟨h1, h2⟩ := hP i hr
  unfold put
  rw [Int.toNat_natCast, Int.toNat_natCast]
  by_cases hm : i ∈ row
  · rw [if_neg (fun e => e.2.2 (List.mem_map_of_mem hm)), if_neg (fun e => e.2.2 hm)]
    exact ⟨rfl, hrow⟩
  · have hm' : s i ∉ row.map s := by
      intro e
      obtain ⟨j, hj, e⟩ := List.mem_map.1 e
      have := hs j i (hrow j hj) hr e
      subst this
      exact hm hj
    rw [if_pos ⟨by omega, by omega, hm'⟩, if_pos ⟨by omega, by omega, hm⟩]
    refine ⟨by simp, fun a ha => ?_⟩
    rcases List.mem_append.1 ha with ha | ha
    · exact hrow a ha
    · rw [List.mem_singleton] at ha; subst ha; exact hr

theorem puts_map {n n' : Nat} {s : Nat → Nat} {P : Nat → Prop} (hP : ∀ i, P i → i < n ∧ s i < n') (hs : ∀ i j, P i → P j → s i = s j → i = j) : ∀ {l : List Int} {row : List Nat}, (∀ i ∈ row, P i) → (∀ r ∈ l, r < 0 ∨ P r.toNat) →
    puts n' (row.map s) (l.map (mapI s)) = (puts n row l).map s ∧ ∀ i ∈ puts n row l, P i
  | [], row, h, _ => ⟨rfl, h⟩
  | r :: l, row, h, hl => by
    obtain ⟨h1, h2⟩ := put_map hP hs h (hl r (by simp))
    rw [List.map_cons, puts_cons, puts_cons, h1]
    exact puts_map hP hs h2 (fun a ha => hl a (by simp [ha]))

theorem walkR_map {g g' : Gr} {s : Nat → Nat} {P : Nat → Prop} (hP : ∀ i, P i → i < g.n ∧ s i < g'.n) (hs : ∀ i j, P i → P j → s i = s j → i = j)
    (hr : ∀ i, P i → refsOf (g'.at (s i)).fs = (refsOf (g.at i).fs).map (mapI s)) (hc : ∀ i, P i → ∀ r ∈ refsOf (g.at i).fs, r < 0 ∨ P r.toNat) :
    ∀ (f k : Nat) {row : List Nat}, (∀ i ∈ row, P i) → walkR g' f k (row.map s) = (walkR g f k row).map s
  | 0, _, _, _ => rfl
  | f + 1, k, row, h => by
    by_cases hk : k < row.length
    · rw [walkR_step g f k row hk, walkR_step g' f k (row.map s) (by simpa using hk)]
      have he : (row.map s).getD k 0 = s (row.getD k 0) := by simp [List.getD_eq_getElem?_getD, hk]
      have hp : P (row.getD k 0) := h _ (by rw [List.getD_eq_getElem?_getD, List.getElem?_eq_getElem hk]; exact List.getElem_mem hk)
      rw [he, hr _ hp]
      obtain ⟨h1, h2⟩ := puts_map (n := g.n) (n' := g'.n) hP hs h (hc _ hp)
      rw [h1]
      exact walkR_map hP hs hr hc f (k + 1) h2
    · rw [walkR_done g _ k row (by omega), walkR_done g' _ k _ (by simpa using Nat.not_lt.1 hk)]

/-- Nodes that are numbered otherwise are come to in the same order. -/
theorem orderG_map {g g' : Gr} {s : Nat → Nat} {P : Nat → Prop} (hP : ∀ i, P i → i < g.n ∧ s i < g'.n) (hs : ∀ i j, P i → P j → s i = s j → i = j)
    (hr : ∀ i, P i → refsOf (g'.at (s i)).fs = (refsOf (g.at i).fs).map (mapI s)) (hc : ∀ i, P i → ∀ r ∈ refsOf (g.at i).fs, r < 0 ∨ P r.toNat) {l : List Int} (hl : ∀ r ∈ l, r < 0 ∨ P r.toNat) :
    orderG g' (l.map (mapI s)) = (orderG g l).map s := by
  unfold orderG
  obtain ⟨h1, h2⟩ := puts_map (n := g.n) (n' := g'.n) (row := []) hP hs (by simp) hl
  rw [List.map_nil] at h1
  rw [h1, walkR_fuel g (g.n + 1) (g.n + 1 + g'.n) 0 (puts_fine (Fine.nil _)) (by omega) (by omega), ← walkR_map hP hs hr hc (g.n + 1 + g'.n) 0 h2, ← h1]
  exact walkR_fuel g' _ _ 0 (puts_fine (Fine.nil _)) (by omega) (by omega)
end Go.Flo
