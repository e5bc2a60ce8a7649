/-
  What GraphAlike leans on: nodes copied into a row of one's own; one node more; one field more. No conditions but each theorem's own.
-/
import Derived.Test.YtigclopkoolocaaGd12
import Derived.Test.YtigclopkoolocaaSrc8
namespace Go.Flo
open Go.RowKit Go.Bit Go.Proofs.Ytigclopkoolocaa

theorem getD_lt {α : Type} {l : List α} {i : Nat} {d : α} (h : i < l.length) : l.getD i d = l[i] := by rw [List.getD_eq_getElem?_getD, List.getElem?_eq_getElem h]; rfl

/-- Nodes in memory, as cells. -/
theorem nodl_vs {w : World} {A : Option Addr} {c : Nat} {L : List Nod} (h : NodL w A c L) : ∃ vs : Nat → Value, (0 < L.length → ∃ b o, A = some ⟨b, o, none⟩ ∧ b < w.heap.size) ∧ (∀ ad, A = some ad → ∀ j u, (nodC L.length (fun i => (L.getD i nod0).K) vs)[j]? = some u → w.cell? (ad.add j) = some u) ∧
    ∀ i, i < L.length → ∃ A' c', vs i = .slice A' (L.getD i nod0).fs.length c' ∧ Vals w A' (L.getD i nod0).fs.length c' (fun j => (L.getD i nod0).fs.getD j z0) := by
  by_cases h0 : 0 < L.length
  case neg =>
    have hl : L = [] := List.length_eq_zero_iff.1 (by omega)
    subst hl
    exact ⟨fun _ => .slice none 0 0, fun e => absurd e h0, fun ad _ j u hu => by simp [nodC] at hu, fun i hi => by simp at hi⟩
  obtain ⟨b, o, e, hb, hc⟩ := h.cells h0
  have key : ∀ i, ∃ v : Value, i < L.length → w.cell? ⟨b, o + i * 2 + 1, none⟩ = some v ∧ ∃ A' c', v = .slice A' (L.getD i nod0).fs.length c' ∧ Vals w A' (L.getD i nod0).fs.length c' (fun j => (L.getD i nod0).fs.getD j z0) := by
    intro i
    by_cases hi : i < L.length
    · obtain ⟨A', c', e0, e1, hv⟩ := hc i hi
      exact ⟨_, fun _ => ⟨e1, A', c', rfl, hv⟩⟩
    · exact ⟨.slice none 0 0, fun hi2 => absurd hi2 hi⟩
  obtain ⟨vs, hvs⟩ := Classical.axiomOfChoice key
  refine ⟨vs, fun _ => ⟨b, o, e, hb⟩, fun ad had j u hu => ?_, fun i hi => (hvs i hi).2⟩
  rw [e] at had
  obtain rfl : ad = ⟨b, o, none⟩ := by simpa using had.symm
  have hj : j < L.length * 2 := by
    have := (List.getElem?_eq_some_iff.1 hu).1
    rwa [nodC_len] at this
  rw [addr_add0]
  have hi : j / 2 < L.length := by omega
  obtain ⟨g1, g2⟩ := nodC_get (fun i => (L.getD i nod0).K) vs hi
  rcases (show j = j / 2 * 2 ∨ j = j / 2 * 2 + 1 by omega) with e2 | e2
  · rw [e2, g1] at hu
    obtain ⟨A', c', e0, _⟩ := hc (j / 2) hi
    rw [e2, e0]
    exact hu
  · rw [e2, g2] at hu
    rw [e2, ← Nat.add_assoc, (hvs _ hi).1]
    exact hu

theorem nodl_of_row {w : World} {B : Nat} {tn : TypeId} {v : Value} {L : List Nod} {vs : Nat → Value} (h1 : w.ownsRow B tn 2 v L.length (nodC L.length (fun i => (L.getD i nod0).K) vs))
    (h2 : ∀ i, i < L.length → ∃ A' c', vs i = .slice A' (L.getD i nod0).fs.length c' ∧ Vals w A' (L.getD i nod0).fs.length c' (fun j => (L.getD i nod0).fs.getD j z0)) : ∃ A c, v = .slice A L.length c ∧ NodL w A c L := by
  rcases h1.2 with ⟨rfl, h0⟩ | ⟨gg, cap, cur, rfl, hg, hh, hn, hm, _, _⟩
  · have hn : L.length = 0 := by first | exact h0 | exact h0.1 | exact h0.2
    have hl : L = [] := List.length_eq_zero_iff.1 hn
    subst hl
    exact ⟨none, 0, rfl, NodL.nil _⟩
  · have hlt := (h1.lt gg rfl).2
    have hc := h1.cells (g := gg) rfl
    unfold maxLen at hm
    refine ⟨some ⟨gg, 0, none⟩, cap, rfl, hn, by omega, fun _ => ⟨gg, 0, rfl, hlt, fun i hi => ?_⟩⟩
    obtain ⟨A', c', e, hv⟩ := h2 i hi
    obtain ⟨g1, g2⟩ := nodC_get (fun i => (L.getD i nod0).K) vs hi
    have q1 := hc _ _ g1
    have q2 := hc _ _ g2
    rw [addr_add0] at q1 q2
    rw [e] at q2
    refine ⟨A', c', q1, ?_, hv⟩
    rw [Nat.add_assoc]
    exact q2

/-- A graph with one more field, a number, at one node's end. -/
def moreG (g : Gr) (a : Nat) (x : Int) : Gr := ⟨g.nodes.set a ⟨(g.at a).K, (g.at a).fs ++ [⟨1, x, 0, 0, 0⟩]⟩, g.roots, g.weaks⟩
theorem moreG_n (g : Gr) (a : Nat) (x : Int) : (moreG g a x).n = g.n := by unfold moreG Gr.n; simp
theorem moreG_at {g : Gr} {a i : Nat} (x : Int) (hi : i < g.n) : (moreG g a x).at i = if i = a then ⟨(g.at a).K, (g.at a).fs ++ [⟨1, x, 0, 0, 0⟩]⟩ else g.at i := by
  unfold moreG Gr.at
  dsimp only
  have hi2 : i < g.nodes.length := hi
  rw [List.getD_eq_getElem?_getD, List.getElem?_set]
  by_cases e : a = i
  · subst e
    simp [hi2]
  · rw [if_neg e, if_neg (fun e2 => e e2.symm), List.getD_eq_getElem?_getD]
theorem moreG_refs {g : Gr} {a i : Nat} (x : Int) (hi : i < g.n) : refsOf ((moreG g a x).at i).fs = refsOf (g.at i).fs := by
  rw [moreG_at x hi]
  by_cases e : i = a
  · subst e
    rw [if_pos rfl]
    dsimp only
    rw [refsOf_append]
    simp [refsOf]
  · rw [if_neg e]
/-- A trimmed graph with one more field is another one. -/
theorem more_other {g : Gr} (h : MayG g) {a : Nat} (ha : a < (trimG g).n) (x : Int) : ¬ AlikeG (trimG g) (moreG (trimG g) a x) := by
  rintro ⟨hm, hm2, he⟩
  obtain ⟨t, ht⟩ : ∃ t, trimG g = t := ⟨_, rfl⟩
  have hord := trim_order h
  have htt := trim_trim h
  have hn : (trimG g).n = (orderG g g.roots).length := trimR_n _ _
  rw [ht] at hm hm2 he ha hord htt hn
  have ho : orderG (moreG t a x) (moreG t a x).roots = orderG t t.roots := by
    have := orderG_map (g := t) (g' := moreG t a x) (s := id) (P := fun i => i < t.n) (fun i hi => ⟨hi, by rw [moreG_n]; exact hi⟩) (fun i j _ _ e => e) (fun i hi => by rw [show id i = i from rfl, moreG_refs x hi, mapI_ids]) (fun i hi r hr => by
      have := hm.ref hi hr
      exact Or.inr (by omega)) (l := t.roots) (fun r hr => by
      have := hm.2.1 r hr
      unfold MayI at this
      by_cases h0 : r < 0
      · exact Or.inl h0
      · exact Or.inr (by omega))
    rw [mapI_ids, List.map_id] at this
    exact this
  have e1 : (trimG (moreG t a x)).at a = ⟨((moreG t a x).at a).K, ((moreG t a x).at a).fs.map (plainR (orderG (moreG t a x) (moreG t a x).roots))⟩ := by
    have hr : (orderG (moreG t a x) (moreG t a x).roots) = List.range (orderG g g.roots).length := by rw [ho, hord]
    have hl : a < (orderG (moreG t a x) (moreG t a x).roots).length := by rw [hr, List.length_range]; omega
    have := trimR_at (moreG t a x) (orderG (moreG t a x) (moreG t a x).roots) hl
    have e2 : (orderG (moreG t a x) (moreG t a x).roots)[a] = a := by simp only [hr, List.getElem_range]
    rw [e2] at this
    exact this
  rw [← he, htt] at e1
  have e3 := congrArg (fun y => y.fs.length) e1
  simp only [List.length_map] at e3
  rw [moreG_at x ha, if_pos rfl] at e3
  simp at e3

/-- One node of a row set anew. -/
theorem owns_set2 {w : World} {B g n c P : Nat} {tn : TypeId} {K : Nat → Int} {vs : Nat → Value} {v' : Value} (h : w.ownsRow B tn 2 (.slice (some ⟨g, 0, none⟩) n c) n (nodC n K vs)) (hP : P < n) :
    ((w.setCell ⟨g, P * 2, none⟩ (.int .i64 (K P))).setCell ⟨g, P * 2 + 1, none⟩ v').ownsRow B tn 2 (.slice (some ⟨g, 0, none⟩) n c) n (nodC n K (fun i => if i = P then v' else vs i)) := by
  refine ⟨by rw [nodC_len], ?_⟩
  rcases h.2 with ⟨e, _⟩ | ⟨g', cap, cur, e, hb, hh, hn, hm, hs, ht⟩
  · cases e
  injection e with e1 _ e3
  obtain rfl : g = g' := by simpa using e1
  subst e3
  have hbk : Blk w g tn cur := hh
  have h2 := (hbk.set_ (P * 2) (.int .i64 (K P))).set_ (P * 2 + 1) v'
  refine Or.inr ⟨g, c, _, rfl, hb, h2, hn, hm, by simpa using hs, ?_⟩
  apply List.ext_getElem?
  intro i
  rw [List.getElem?_take]
  by_cases hi : i < n * 2
  · rw [if_pos hi]
    have hc : cur.toList[i]? = (nodC n K vs)[i]? := by rw [← ht, List.getElem?_take, if_pos hi]
    have hil : i < cur.size := by rw [hs]; omega
    obtain ⟨q1, q2⟩ := nodC_get K vs (show i / 2 < n by omega)
    obtain ⟨r1, r2⟩ := nodC_get K (fun i => if i = P then v' else vs i) (show i / 2 < n by omega)
    simp only [Array.toList_setIfInBounds, List.getElem?_set]
    rcases (show i = i / 2 * 2 ∨ i = i / 2 * 2 + 1 by omega) with e | e
    · have h9 : ¬ P * 2 + 1 = i := by omega
      rw [if_neg h9]
      by_cases e4 : P * 2 = i
      · have e5 : i / 2 = P := by omega
        rw [if_pos e4, if_pos (by simp; omega)]
        rw [e5] at r1
        rw [← e4, r1]
      · rw [if_neg e4, hc]
        rw [e, q1, r1]
    · by_cases e4 : P * 2 + 1 = i
      · have e5 : i / 2 = P := by omega
        rw [if_pos e4, if_pos (by simp; omega)]
        rw [e5, if_pos rfl] at r2
        rw [← e4, r2]
      · have e6 : ¬ i / 2 = P := by omega
        rw [if_neg e4, if_neg (by omega), hc]
        rw [if_neg e6] at r2
        rw [e, q2, r2]
  · rw [if_neg hi, List.getElem?_eq_none (by rw [nodC_len]; omega)]

theorem rowV_at {l : List Val} {i k : Nat} (hi : i < l.length) (hk : k < 5) : (rowV l)[i * 5 + k]? = (cellsV (l.getD i z0))[k]? := by
  induction l generalizing i with
  | nil => simp at hi
  | cons x l ih =>
    unfold rowV
    rw [List.flatMap_cons]
    cases i with
    | zero =>
      rw [List.getElem?_append_left (by simp [cellsV]; omega)]
      simp
    | succ i =>
      rw [List.getElem?_append_right (by simp [cellsV]; omega)]
      have := ih (i := i) (by simpa using hi)
      unfold rowV at this
      have e : (i + 1) * 5 + k - (cellsV x).length = i * 5 + k := by simp [cellsV]; omega
      rw [e, this]
      simp

/-- Values in memory, as what an append takes. -/
theorem vals_news {w : World} {A : Option Addr} {c : Nat} {l : List Val} (h : Vals w A l.length c (fun j => l.getD j z0)) : (0 < l.length → ∃ b o, A = some ⟨b, o, none⟩ ∧ b < w.heap.size) ∧ (A = none → l.length = 0) ∧ ∀ ad, A = some ad → ∀ j u, (rowV l)[j]? = some u → w.cell? (ad.add j) = some u := by
  refine ⟨fun h0 => ?_, fun e => ?_, fun ad e j u hu => ?_⟩
  · obtain ⟨b, o, e2, hb, _⟩ := h.cells h0
    exact ⟨b, o, e2, hb⟩
  · rcases Nat.eq_zero_or_pos l.length with h0 | h0
    · exact h0
    · obtain ⟨b, o, e2, _⟩ := h.cells h0
      rw [e] at e2
      cases e2
  have hj : j < l.length * 5 := by
    have := (List.getElem?_eq_some_iff.1 hu).1
    rwa [rowV_len] at this
  obtain ⟨b, o, e2, _, hc⟩ := h.cells (by omega)
  rw [e] at e2
  obtain rfl : ad = ⟨b, o, none⟩ := by simpa using e2
  have hi : j / 5 < l.length := by omega
  obtain ⟨q0, q1, q2, q3, q4⟩ := hc (j / 5) hi
  have hr := rowV_at hi (k := j % 5) (Nat.mod_lt _ (by omega))
  rw [show j / 5 * 5 + j % 5 = j by omega, hu] at hr
  rw [addr_add0]
  have h5 : j % 5 = 0 ∨ j % 5 = 1 ∨ j % 5 = 2 ∨ j % 5 = 3 ∨ j % 5 = 4 := by omega
  rcases h5 with h5 | h5 | h5 | h5 | h5 <;> rw [h5] at hr <;> simp [cellsV] at hr <;> rw [hr]
  · rw [show o + j = o + j / 5 * 5 by omega]; exact q0
  · rw [show o + j = o + j / 5 * 5 + 1 by omega]; exact q1
  · rw [show o + j = o + j / 5 * 5 + 2 by omega]; exact q2
  · rw [show o + j = o + j / 5 * 5 + 3 by omega]; exact q3
  · rw [show o + j = o + j / 5 * 5 + 4 by omega]; exact q4
theorem rowV_one {l : List Val} : ∀ u ∈ rowV l, u.oneCell' = true := by
  intro u hu
  unfold rowV at hu
  obtain ⟨v, _, hv⟩ := List.mem_flatMap.1 hu
  simp [cellsV] at hv
  rcases hv with rfl | rfl | rfl | rfl | rfl <;> rfl
end Go.Flo
