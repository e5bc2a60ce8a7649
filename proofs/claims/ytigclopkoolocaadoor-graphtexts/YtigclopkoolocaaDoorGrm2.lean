/-
  Graphs as plain data: trimmed; alike; numbered otherwise. No program is named here. Each theorem bears its own conditions.
-/
import Derived.Test.YtigclopkoolocaaDoorGrm1
namespace Go.Flo
open Go.RowKit Go.Proofs.YtigclopkoolocaaDoor

/-- Where a node stands in the row; -1. -/
def place (R : List Nat) (r : Int) : Int := if 0 ≤ r ∧ r.toNat ∈ R then (R.idxOf r.toNat : Nat) else -1
/-- A value as its kind has it, its node by its place in the row. -/
def plainR (R : List Nat) (v : Val) : Val := if v.K = 3 then ⟨3, 0, 0, 0, place R v.r⟩ else plainV v
/-- What the nodes of a row are, renumbered. -/
def trimR (g : Gr) (R : List Nat) : Gr := ⟨R.map fun i => ⟨(g.at i).K, (g.at i).fs.map (plainR R)⟩, g.roots.map (place R), g.weaks.map (place R)⟩
/-- What the roots reach, renumbered. -/
def trimG (g : Gr) : Gr := trimR g (orderG g g.roots)
def trimE (g : Gr) : Gr := if MayG g then trimG g else ⟨[], [], []⟩

theorem plainV_K (v : Val) : (plainV v).K = v.K := by
  unfold plainV
  split
  · rename_i e; exact e.symm
  split
  · rename_i e; exact e.symm
  split
  · rename_i e; exact e.symm
  rfl
theorem plainV_r {v : Val} (h : v.K = 3) : (plainV v).r = v.r := by
  unfold plainV
  rw [if_neg (by omega), if_neg (by omega), if_pos h]
theorem plainR_plain (R : List Nat) (v : Val) : plainR R (plainV v) = plainR R v := by
  unfold plainR
  rw [plainV_K]
  split
  · rename_i e; rw [plainV_r e]
  · exact plainV_plain v
theorem plainR_K (R : List Nat) (v : Val) : (plainR R v).K = v.K := by
  unfold plainR
  split
  · rename_i e; exact e.symm
  · exact plainV_K v
theorem plainV_plainR (R : List Nat) (v : Val) : plainV (plainR R v) = plainR R v := by
  unfold plainR
  split
  · rfl
  · exact plainV_plain v

theorem refsOf_plain (l : List Val) : refsOf (l.map plainV) = refsOf l := by
  induction l with
  | nil => rfl
  | cons v l ih =>
    unfold refsOf at ih ⊢
    rw [List.map_cons, List.filter_cons, List.filter_cons, plainV_K]
    by_cases h : v.K = 3
    · simp only [h, beq_self_eq_true, if_true, List.map_cons, plainV_r h]
      rw [ih]
    · have h2 : (v.K == 3) = false := by simpa using h
      simp only [h2]
      exact ih

theorem refsOf_map (l : List Val) (F : Val → Val) (G : Int → Int) (hK : ∀ v, (F v).K = v.K) (hr : ∀ v ∈ l, v.K = 3 → (F v).r = G v.r) : refsOf (l.map F) = (refsOf l).map G := by
  induction l with
  | nil => rfl
  | cons v l ih =>
    have ih := ih (fun v hv => hr v (by simp [hv]))
    unfold refsOf at ih ⊢
    rw [List.map_cons, List.filter_cons, List.filter_cons, hK]
    by_cases h : v.K = 3
    · simp only [h, beq_self_eq_true, if_true, List.map_cons, hr v (by simp) h]
      rw [ih]
    · have h2 : (v.K == 3) = false := by simpa using h
      simp only [h2]
      exact ih

theorem mem_refsOf {l : List Val} {r : Int} : r ∈ refsOf l ↔ ∃ v ∈ l, v.K = 3 ∧ v.r = r := by
  unfold refsOf
  simp only [List.mem_map, List.mem_filter, beq_iff_eq]
  constructor
  · rintro ⟨v, ⟨h1, h2⟩, h3⟩; exact ⟨v, h1, h2, h3⟩
  · rintro ⟨v, h1, h2, h3⟩; exact ⟨v, ⟨h1, h2⟩, h3⟩

theorem at_mem {g : Gr} {i : Nat} (h : i < g.n) : g.at i ∈ g.nodes := by
  unfold Gr.at Gr.n at *
  rw [List.getD_eq_getElem?_getD, List.getElem?_eq_getElem h]
  exact List.getElem_mem h

/-- Of a graph that may be each reference is a node. -/
theorem MayG.ref {g : Gr} (h : MayG g) {i : Nat} (hi : i < g.n) {r : Int} (hr : r ∈ refsOf (g.at i).fs) : 0 ≤ r ∧ r < g.n := by
  obtain ⟨v, hv, h3, rfl⟩ := mem_refsOf.1 hr
  exact (h.2.2.2 _ (at_mem hi) v hv).2.2 h3

theorem idxOf_map {s : Nat → Nat} : ∀ {R : List Nat} {i : Nat}, (∀ j ∈ R, s j = s i → j = i) → (R.map s).idxOf (s i) = R.idxOf i
  | [], _, _ => rfl
  | a :: R, i, h => by
    rw [List.map_cons, List.idxOf_cons, List.idxOf_cons]
    by_cases e : a = i
    · subst e; simp
    · have e2 : ¬ s a = s i := fun e2 => e (h a (by simp) e2)
      have b1 : (a == i) = false := by simpa using e
      have b2 : (s a == s i) = false := by simpa using e2
      rw [b1, b2]
      simp only [cond_false]
      rw [idxOf_map (fun j hj => h j (by simp [hj]))]

theorem place_map {s : Nat → Nat} {R : List Nat} {n : Nat} (hR : ∀ i ∈ R, i < n) (hs : ∀ i j, i < n → j < n → s i = s j → i = j) {r : Int} (hr : r < n) : place (R.map s) (mapI s r) = place R r := by
  unfold place mapI
  by_cases h0 : r < 0
  · rw [if_pos h0, if_neg (by omega), if_neg (by omega)]
  rw [if_neg h0]
  obtain ⟨i, rfl⟩ : ∃ i : Nat, r = i := ⟨r.toNat, by omega⟩
  rw [Int.toNat_natCast, Int.toNat_natCast]
  have hi : i < n := by omega
  by_cases hm : i ∈ R
  · rw [if_pos ⟨by omega, List.mem_map_of_mem hm⟩, if_pos ⟨by omega, hm⟩, idxOf_map (fun j hj e => hs j i (hR j hj) hi e)]
  · rw [if_neg, if_neg (fun e => hm e.2)]
    rintro ⟨_, e⟩
    obtain ⟨j, hj, e⟩ := List.mem_map.1 e
    exact hm (hs j i (hR j hj) hi e ▸ hj)

/-- A value whose node is numbered otherwise. -/
def mapV (s : Nat → Nat) (v : Val) : Val := if v.K = 3 then ⟨3, 0, 0, 0, mapI s v.r⟩ else v
theorem mapV_K (s : Nat → Nat) (v : Val) : (mapV s v).K = v.K := by unfold mapV; split; rename_i e; exact e.symm; rfl
theorem mapV_r {s : Nat → Nat} {v : Val} (h : v.K = 3) : (mapV s v).r = mapI s v.r := by unfold mapV; rw [if_pos h]

/-- HOW NODES ARE NUMBERED MAKES NO DIFFERENCE, nor what stands beside. -/
theorem trim_map {g g' : Gr} {s : Nat → Nat} (hm : MayG g) (hP : ∀ i, i < g.n → s i < g'.n) (hs : ∀ i j, i < g.n → j < g.n → s i = s j → i = j)
    (hn : ∀ i, i < g.n → (g'.at (s i)).K = (g.at i).K ∧ (g'.at (s i)).fs.map plainV = (g.at i).fs.map fun v => plainV (mapV s v))
    (h1 : g'.roots = g.roots.map (mapI s)) (h2 : g'.weaks = g.weaks.map (mapI s)) : trimG g' = trimG g ∧ orderG g' g'.roots = (orderG g g.roots).map s := by
  have hr : ∀ i, i < g.n → refsOf (g'.at (s i)).fs = (refsOf (g.at i).fs).map (mapI s) := by
    intro i hi
    rw [← refsOf_plain, (hn i hi).2]
    have e : ((g.at i).fs.map fun v => plainV (mapV s v)) = ((g.at i).fs.map (mapV s)).map plainV := by rw [List.map_map]; rfl
    rw [e, refsOf_plain]
    exact refsOf_map _ _ _ (mapV_K s) (fun v _ h => mapV_r h)
  have ho : orderG g' g'.roots = (orderG g g.roots).map s := by
    rw [h1]
    refine orderG_map (P := fun i => i < g.n) (fun i hi => ⟨hi, hP i hi⟩) hs hr ?_ ?_
    · intro i hi r hr
      have := hm.ref hi hr
      exact Or.inr (by omega)
    · intro r hr
      have := hm.2.1 r hr
      unfold MayI at this
      by_cases h : r < 0
      · exact Or.inl h
      · exact Or.inr (by omega)
  refine ⟨?_, ho⟩
  have hf := orderG_fine g g.roots
  unfold trimG
  rw [ho]
  unfold trimR
  rw [h1, h2, List.map_map, List.map_map, List.map_map]
  have hpl : ∀ r : Int, r < g.n → place ((orderG g g.roots).map s) (mapI s r) = place (orderG g g.roots) r := fun r hr => place_map hf.2 hs hr
  congr 1
  · refine List.map_congr_left fun i hi => ?_
    have hin := hf.2 i hi
    obtain ⟨a, b⟩ := hn i hin
    simp only [Function.comp_apply, a]
    congr 1
    have e1 : (g'.at (s i)).fs.map (plainR ((orderG g g.roots).map s)) = ((g'.at (s i)).fs.map plainV).map (plainR ((orderG g g.roots).map s)) := by
      rw [List.map_map]
      exact List.map_congr_left fun v _ => (plainR_plain _ v).symm
    rw [e1, b, List.map_map]
    refine List.map_congr_left fun v hv => ?_
    simp only [Function.comp_apply]
    rw [plainR_plain]
    unfold plainR
    rw [mapV_K]
    by_cases h3 : v.K = 3
    · rw [if_pos h3, if_pos h3, mapV_r h3, hpl _ ((hm.2.2.2 _ (at_mem hin) v hv).2.2 h3).2]
    · rw [if_neg h3, if_neg h3]
      unfold mapV
      rw [if_neg h3]
  · exact List.map_congr_left fun r hr => hpl r (hm.2.1 r hr).2
  · exact List.map_congr_left fun r hr => hpl r (hm.2.2.1 r hr).2

theorem idxOf_lt {R : List Nat} {i : Nat} (h : i ∈ R) : R.idxOf i < R.length := List.idxOf_lt_length_of_mem h

theorem getElem_idx {R : List Nat} {i : Nat} (h : i ∈ R) : R[R.idxOf i]'(idxOf_lt h) = i := List.getElem_idxOf _

theorem idx_getElem : ∀ {R : List Nat} (_ : R.Nodup) {k : Nat} (hk : k < R.length), R.idxOf R[k] = k
  | a :: R, h, 0, _ => by simp
  | a :: R, h, k + 1, hk => by
    have h1 := List.nodup_cons.1 h
    have hk' : k < R.length := by simpa using hk
    rw [List.getElem_cons_succ, List.idxOf_cons]
    have : (a == R[k]) = false := by
      have : ¬ a = R[k] := fun e => h1.1 (e ▸ List.getElem_mem hk')
      simpa using this
    rw [this]
    simp only [cond_false]
    rw [idx_getElem h1.2 hk']

theorem map_idxOf {R : List Nat} (h : R.Nodup) : R.map R.idxOf = List.range R.length := by
  apply List.ext_getElem
  · simp
  · intro k h1 h2
    have hk : k < R.length := by simpa using h1
    rw [List.getElem_map, List.getElem_range, idx_getElem h hk]

theorem place_in {R : List Nat} {i : Nat} (h : i ∈ R) : place R (i : Int) = (R.idxOf i : Nat) := by
  unfold place
  rw [Int.toNat_natCast, if_pos ⟨by omega, h⟩]
theorem place_neg {R : List Nat} {r : Int} (h : r < 0) : place R r = -1 := by unfold place; rw [if_neg (by omega)]
theorem place_rng (R : List Nat) (r : Int) : MayI R.length (place R r) := by
  unfold MayI place
  split
  · rename_i h; have := idxOf_lt h.2; omega
  · omega
theorem place_range {k : Nat} {r : Int} (h : MayI k r) : place (List.range k) r = r := by
  unfold MayI at h
  by_cases h0 : r < 0
  · rw [place_neg h0]; omega
  · obtain ⟨i, rfl⟩ : ∃ i : Nat, r = i := ⟨r.toNat, by omega⟩
    have hi : i < k := by omega
    rw [place_in (List.mem_range.2 hi)]
    have := idx_getElem (R := List.range k) List.nodup_range (k := i) (by simpa using hi)
    rw [List.getElem_range] at this
    rw [this]

theorem trimR_n (g : Gr) (R : List Nat) : (trimR g R).n = R.length := by unfold trimR Gr.n; simp
theorem trimR_at (g : Gr) (R : List Nat) {k : Nat} (h : k < R.length) : (trimR g R).at k = ⟨(g.at R[k]).K, (g.at R[k]).fs.map (plainR R)⟩ := by
  unfold trimR Gr.at
  rw [List.getD_eq_getElem?_getD]
  simp [h]

/-- A trimmed graph may be. -/
theorem trim_may {g : Gr} (h : MayG g) : MayG (trimG g) := by
  have hf := orderG_fine g g.roots
  have hl := hf.len
  unfold MayG
  have hn : (trimG g).n = (orderG g g.roots).length := trimR_n _ _
  rw [hn]
  refine ⟨by have := h.1; omega, ?_, ?_, ?_⟩
  · intro r hr
    obtain ⟨q, _, rfl⟩ := List.mem_map.1 hr
    exact place_rng _ _
  · intro r hr
    obtain ⟨q, _, rfl⟩ := List.mem_map.1 hr
    exact place_rng _ _
  · intro x hx v hv
    obtain ⟨i, hi, rfl⟩ := List.mem_map.1 hx
    obtain ⟨u, hu, rfl⟩ := List.mem_map.1 hv
    have hin := hf.2 i hi
    have hmv := h.2.2.2 _ (at_mem hin) u hu
    unfold MayV at hmv ⊢
    rw [plainR_K]
    refine ⟨hmv.1, hmv.2.1, fun h3 => ?_⟩
    have hr := hmv.2.2 h3
    have hs := orderG_shut g g.roots hi (mem_refsOf.2 ⟨u, hu, h3, rfl⟩) hr.1 hr.2
    unfold plainR
    rw [if_pos h3]
    show 0 ≤ place _ _ ∧ place _ _ < _
    unfold place
    rw [if_pos ⟨hr.1, hs⟩]
    have := idxOf_lt hs
    omega

/-- The nodes of a trimmed graph stand in the order of the walk. -/
theorem trim_order {g : Gr} (h : MayG g) : orderG (trimG g) (trimG g).roots = List.range (orderG g g.roots).length := by
  have hf := orderG_fine g g.roots
  have hn : (trimG g).n = (orderG g g.roots).length := trimR_n _ _
  have hroots : (trimG g).roots = g.roots.map (mapI (orderG g g.roots).idxOf) := by
    show g.roots.map (place _) = _
    refine List.map_congr_left fun r hr => ?_
    have hm := h.2.1 r hr
    unfold MayI at hm
    unfold mapI
    by_cases h0 : r < 0
    · rw [place_neg h0, if_pos h0]; omega
    · rw [if_neg h0]
      unfold place
      rw [if_pos ⟨by omega, orderG_roots g g.roots hr (by omega) hm.2⟩]
  rw [hroots, orderG_map (g := g) (g' := trimG g) (s := (orderG g g.roots).idxOf) (P := fun i => i ∈ orderG g g.roots), map_idxOf hf.1]
  · intro i hi
    rw [hn]
    exact ⟨hf.2 i hi, idxOf_lt hi⟩
  · intro i j hi hj e
    have h1 := getElem_idx hi
    have h2 := getElem_idx hj
    rw [← h1, ← h2]
    congr 1
  · intro i hi
    have ht : (trimG g).at ((orderG g g.roots).idxOf i) = ⟨(g.at i).K, (g.at i).fs.map (plainR (orderG g g.roots))⟩ := by
      unfold trimG
      rw [trimR_at g _ (idxOf_lt hi), getElem_idx hi]
    rw [ht]
    refine refsOf_map _ _ _ (plainR_K _) fun v hv h3 => ?_
    have hr := (h.2.2.2 _ (at_mem (hf.2 i hi)) v hv).2.2 h3
    have hs := orderG_shut g g.roots hi (mem_refsOf.2 ⟨v, hv, h3, rfl⟩) hr.1 hr.2
    unfold plainR mapI
    rw [if_pos h3, if_neg (by omega)]
    show place _ _ = _
    unfold place
    rw [if_pos ⟨hr.1, hs⟩]
  · intro i hi r hr
    have := h.ref (hf.2 i hi) hr
    exact Or.inr (orderG_shut g g.roots hi hr this.1 this.2)
  · intro r hr
    have hm := h.2.1 r hr
    unfold MayI at hm
    by_cases h0 : r < 0
    · exact Or.inl h0
    · exact Or.inr (orderG_roots g g.roots hr (by omega) hm.2)

/-- A row of all nodes in their order leaves a plain graph as it is. -/
theorem trimR_range {g : Gr} (h : MayG g) (hp : ∀ x ∈ g.nodes, ∀ v ∈ x.fs, plainV v = v) : trimR g (List.range g.n) = g := by
  have hl : ∀ l : List Int, (∀ r ∈ l, MayI g.n r) → l.map (place (List.range g.n)) = l := fun l hl => by
    have : l.map (place (List.range g.n)) = l.map id := List.map_congr_left fun r hr => place_range (hl r hr)
    rw [this, List.map_id]
  unfold trimR
  rw [hl _ h.2.1, hl _ h.2.2.1]
  have : ((List.range g.n).map fun i => (⟨(g.at i).K, (g.at i).fs.map (plainR (List.range g.n))⟩ : Nod)) = g.nodes := by
    apply List.ext_getElem
    · simp [Gr.n]
    · intro k h1 h2
      have hk : k < g.n := h2
      rw [List.getElem_map, List.getElem_range]
      have ha : g.at k = g.nodes[k] := by unfold Gr.at; rw [List.getD_eq_getElem?_getD, List.getElem?_eq_getElem h2]; rfl
      rw [ha]
      have hx : g.nodes[k] ∈ g.nodes := List.getElem_mem h2
      have : g.nodes[k].fs.map (plainR (List.range g.n)) = g.nodes[k].fs.map id := List.map_congr_left fun v hv => by
        unfold plainR
        by_cases h3 : v.K = 3
        · rw [if_pos h3, place_range]
          · have := hp _ hx v hv
            unfold plainV at this
            rw [if_neg (by omega), if_neg (by omega), if_pos h3] at this
            exact this
          · have := (h.2.2.2 _ hx v hv).2.2 h3
            unfold MayI
            omega
        · rw [if_neg h3]; exact hp _ hx v hv
      rw [this, List.map_id]
      rfl
  rw [this]

theorem trim_plain (g : Gr) (R : List Nat) : ∀ x ∈ (trimR g R).nodes, ∀ v ∈ x.fs, plainV v = v := by
  intro x hx v hv
  obtain ⟨i, _, rfl⟩ := List.mem_map.1 hx
  obtain ⟨u, _, rfl⟩ := List.mem_map.1 hv
  exact plainV_plainR R u

/-- Trimmed again it is the same. -/
theorem trim_trim {g : Gr} (h : MayG g) : trimG (trimG g) = trimG g := by
  have hn : (trimG g).n = (orderG g g.roots).length := trimR_n _ _
  show trimR (trimG g) (orderG (trimG g) (trimG g).roots) = trimG g
  rw [trim_order h, ← hn]
  exact trimR_range (trim_may h) (trim_plain g _)
end Go.Flo
