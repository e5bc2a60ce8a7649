/-
  What GraphSide leans on: two graphs side by side; nodes in a row of which the first stood already. No conditions but each theorem's own.
-/
import Derived.Test.YtigclopkoolocaaDoorGd12
import Derived.Test.YtigclopkoolocaaDoorSrc8
namespace Go.Flo
open Go.RowKit Go.Bit Go.Proofs.YtigclopkoolocaaDoor

theorem getD_lt {α : Type} {l : List α} {i : Nat} {d : α} (h : i < l.length) : l.getD i d = l[i] := by rw [List.getD_eq_getElem?_getD, List.getElem?_eq_getElem h]; rfl

theorem nodl_vs {w : World} {A : Option Addr} {c : Nat} {L : List Nod} (h : NodL w A c L) : ∃ vs : Nat → Value, (0 < L.length → ∃ b o, A = some ⟨b, o, none⟩ ∧ b < w.heap.size) ∧ (∀ ad, A = some ad → ∀ j u, (nodC L.length (fun i => (L.getD i nod0).K) vs)[j]? = some u → w.cell? (ad.add j) = some u) ∧
    ∀ i, i < L.length → ∃ A' c', vs i = .slice A' (L.getD i nod0).fs.length c' ∧ Vals w A' (L.getD i nod0).fs.length c' (fun j => (L.getD i nod0).fs.getD j z0) := by
  by_cases h0 : 0 < L.length
  case neg =>
    have hl : L = [] := List.length_eq_zero_iff.1 (by omega)
    subst hl
    exact ⟨fun _ => .slice none 0 0, fun e => absurd e h0, fun ad _ j u hu => by simp [nodC] at hu, fun i hi => by simp at hi⟩
  obtain ⟨b, o, e, hb, hc⟩ := h.cells h0
  have key : ∀ i, ∃ v : Value, i < L.length → w.cell? ⟨b, o + i * 2 + 1, none⟩ = some v ∧ ∃ A' c', v = .slice A' (L.getD i nod0).fs.length c' ∧ Vals w A' (L.getD i nod0).fs.length c' (fun j => (L.getD i nod0).fs.getD j z0) := by
    intro i
    by_cases hi : i < L.length
    · obtain ⟨A', c', e0, e1, hv⟩ := hc i hi
      exact ⟨_, fun _ => ⟨e1, A', c', rfl, hv⟩⟩
    · exact ⟨.slice none 0 0, fun hi2 => absurd hi2 hi⟩
  obtain ⟨vs, hvs⟩ := Classical.axiomOfChoice key
  refine ⟨vs, fun _ => ⟨b, o, e, hb⟩, fun ad had j u hu => ?_, fun i hi => (hvs i hi).2⟩
  rw [e] at had
  obtain rfl : ad = ⟨b, o, none⟩ := by simpa using had.symm
  have hj : j < L.length * 2 := by
    have := (List.getElem?_eq_some_iff.1 hu).1
    rwa [nodC_len] at this
  rw [addr_add0]
  have hi : j / 2 < L.length := by omega
  obtain ⟨g1, g2⟩ := nodC_get (fun i => (L.getD i nod0).K) vs hi
  rcases (show j = j / 2 * 2 ∨ j = j / 2 * 2 + 1 by omega) with e2 | e2
  · rw [e2, g1] at hu
    obtain ⟨A', c', e0, _⟩ := hc (j / 2) hi
    rw [e2, e0]
    exact hu
  · rw [e2, g2] at hu
    rw [e2, ← Nat.add_assoc, (hvs _ hi).1]
    exact hu

theorem nodl_of_row {w : World} {B : Nat} {tn : TypeId} {v : Value} {L : List Nod} {vs : Nat → Value} (h1 : w.ownsRow B tn 2 v L.length (nodC L.length (fun i => (L.getD i nod0).K) vs))
    (h2 : ∀ i, i < L.length → ∃ A' c', vs i = .slice A' (L.getD i nod0).fs.length c' ∧ Vals w A' (L.getD i nod0).fs.length c' (fun j => (L.getD i nod0).fs.getD j z0)) : ∃ A c, v = .slice A L.length c ∧ NodL w A c L := by
  rcases h1.2 with ⟨rfl, h0⟩ | ⟨gg, cap, cur, rfl, hg, hh, hn, hm, _, _⟩
  · have hn : L.length = 0 := by first | exact h0 | exact h0.1 | exact h0.2
    have hl : L = [] := List.length_eq_zero_iff.1 hn
    subst hl
    exact ⟨none, 0, rfl, NodL.nil _⟩
  · have hlt := (h1.lt gg rfl).2
    have hc := h1.cells (g := gg) rfl
    unfold maxLen at hm
    refine ⟨some ⟨gg, 0, none⟩, cap, rfl, hn, by omega, fun _ => ⟨gg, 0, rfl, hlt, fun i hi => ?_⟩⟩
    obtain ⟨A', c', e, hv⟩ := h2 i hi
    obtain ⟨g1, g2⟩ := nodC_get (fun i => (L.getD i nod0).K) vs hi
    have q1 := hc _ _ g1
    have q2 := hc _ _ g2
    rw [addr_add0] at q1 q2
    rw [e] at q2
    refine ⟨A', c', q1, ?_, hv⟩
    rw [Nat.add_assoc]
    exact q2

theorem trim_slim {g : Gr} (hM : MayG g) (h : Slim g) : Slim (trimG g) := by
  refine ⟨?_, ?_, fun i hi => ?_⟩
  · show (g.roots.map _).length ≤ _; rw [List.length_map]; exact h.1
  · show (g.weaks.map _).length ≤ _; rw [List.length_map]; exact h.2.1
  · have hn : (trimG g).n = (orderG g g.roots).length := trimR_n _ _
    rw [hn] at hi
    have e : (trimG g).at i = _ := trimR_at g (orderG g g.roots) hi
    rw [e]
    dsimp only
    rw [List.length_map]
    exact h.2.2 _ ((orderG_fine g g.roots).2 _ (List.getElem_mem hi))

def sideV (n : Nat) (v : Val) : Val := if v.K = 3 then ⟨3, 0, 0, 0, v.r + n⟩ else plainV v
def sideN (n : Nat) (x : Nod) : Nod := ⟨x.K, x.fs.map (sideV n)⟩
def sideG (g h : Gr) : Gr := ⟨g.nodes ++ h.nodes.map (sideN g.n), g.roots, g.weaks⟩

theorem sideG_n (g h : Gr) : (sideG g h).n = g.n + h.n := by
  show (g.nodes ++ _).length = _
  rw [List.length_append, List.length_map]
  rfl

theorem side_may {g h : Gr} (hg : MayG g) (hh : MayG h) (hn : g.n + h.n ≤ 4096) : MayG (sideG g h) := by
  have e := sideG_n g h
  refine ⟨by rw [e]; exact hn, fun r hr => ?_, fun r hr => ?_, fun x hx v hv => ?_⟩
  · have := hg.2.1 r hr
    rw [e]; exact ⟨this.1, by have := this.2; omega⟩
  · have := hg.2.2.1 r hr
    rw [e]; exact ⟨this.1, by have := this.2; omega⟩
  · rw [e]
    have hx' : x ∈ g.nodes ++ h.nodes.map (sideN g.n) := hx
    rcases List.mem_append.1 hx' with h1 | h1
    · obtain ⟨a, b, c⟩ := hg.2.2.2 x h1 v hv
      exact ⟨a, b, fun hk => ⟨(c hk).1, by have := (c hk).2; omega⟩⟩
    · obtain ⟨y, hy, rfl⟩ := List.mem_map.1 h1
      obtain ⟨u, hu, rfl⟩ := List.mem_map.1 (show v ∈ y.fs.map (sideV g.n) from hv)
      obtain ⟨a, b, c⟩ := hh.2.2.2 y hy u hu
      unfold sideV
      by_cases hk : u.K = 3
      · rw [if_pos hk]
        obtain ⟨c1, c2⟩ := c hk
        exact ⟨by show (0 : Int) ≤ 3; omega, by show (3 : Int) ≤ 3; omega, fun _ => ⟨by show 0 ≤ u.r + _; omega, by show u.r + _ < _; omega⟩⟩
      · rw [if_neg hk]
        rw [MayV, plainV_K]
        exact ⟨a, b, fun e => absurd e hk⟩

theorem side_slim {g h : Gr} (hg : Slim g) (hh : Slim h) : Slim (sideG g h) := by
  refine ⟨hg.1, hg.2.1, fun i hi => ?_⟩
  rw [sideG_n] at hi
  show ((g.nodes ++ h.nodes.map (sideN g.n)).getD i nod0).fs.length ≤ 65536
  by_cases e : i < g.nodes.length
  · rw [List.getD_eq_getElem?_getD, List.getElem?_append_left e, ← List.getD_eq_getElem?_getD]
    exact hg.2.2 i e
  · have hi2 : i - g.nodes.length < h.nodes.length := by
      have h1 : g.n = g.nodes.length := rfl
      have h2 : h.n = h.nodes.length := rfl
      omega
    rw [List.getD_eq_getElem?_getD, List.getElem?_append_right (by omega), List.getElem?_map, List.getElem?_eq_getElem hi2]
    show ((h.nodes[i - g.nodes.length]).fs.map _).length ≤ _
    rw [List.length_map]
    have h3 := hh.2.2 (i - g.nodes.length) hi2
    rwa [at_eq hi2] at h3

theorem side_trim {g h : Gr} (hg : MayG g) : trimG (sideG g h) = trimG g := beside_trim _ hg

/-- Nodes in a row of one's own: the first stood already, the others' fields in rows of their own. -/
def NodMix (w0 w : World) (B : Nat) (tn tv : TypeId) (v : Value) (n0 : Nat) (L : List Nod) : Prop :=
  ∃ vs : Nat → Value, w.ownsRow B tn 2 v L.length (nodC L.length (fun i => (L.getD i nod0).K) vs) ∧
    (∀ i, i < n0 → ∃ A c, vs i = .slice A (L.getD i nod0).fs.length c ∧ Vals w0 A (L.getD i nod0).fs.length c (fun j => (L.getD i nod0).fs.getD j z0)) ∧
    ∀ i, n0 ≤ i → i < L.length → w.ownsRow B tv 5 (vs i) (L.getD i nod0).fs.length (rowV (L.getD i nod0).fs)

theorem NodMix.snoc {w0 w : World} {B j n0 : Nat} {tn tv : TypeId} {v' vf : Value} {L : List Nod} {x : Nod} {vs : Nat → Value} (hj : L.length = j) (hn : n0 ≤ j)
    (h : w.ownsRow B tn 2 v' (j + 1) (nodC j (fun i => (L.getD i nod0).K) vs ++ [.int .i64 x.K, vf]))
    (ho : ∀ i, i < n0 → ∃ A c, vs i = .slice A (L.getD i nod0).fs.length c ∧ Vals w0 A (L.getD i nod0).fs.length c (fun j => (L.getD i nod0).fs.getD j z0))
    (hf : ∀ i, n0 ≤ i → i < j → w.ownsRow B tv 5 (vs i) (L.getD i nod0).fs.length (rowV (L.getD i nod0).fs)) (hx : w.ownsRow B tv 5 vf x.fs.length (rowV x.fs)) : NodMix w0 w B tn tv v' n0 (L ++ [x]) := by
  have g1 : ∀ i, i < j → (L ++ [x]).getD i nod0 = L.getD i nod0 := fun i hi => by
    rw [List.getD_eq_getElem?_getD, List.getD_eq_getElem?_getD, List.getElem?_append_left (by omega)]
  have g2 : (L ++ [x]).getD j nod0 = x := by
    rw [List.getD_eq_getElem?_getD, List.getElem?_append_right (by omega), hj]
    simp
  refine ⟨fun i => if i < j then vs i else vf, ?_, fun i hi => ?_, ?_⟩
  · rw [List.length_append, hj]
    have e : nodC (j + 1) (fun i => ((L ++ [x]).getD i nod0).K) (fun i => if i < j then vs i else vf) = nodC j (fun i => (L.getD i nod0).K) vs ++ [.int .i64 x.K, vf] := by
      rw [nodC_succ]
      congr 1
      · exact nodC_congr (fun i hi => ⟨by rw [g1 i hi], if_pos hi⟩)
      · rw [g2, if_neg (by omega)]
    show w.ownsRow B tn 2 v' (j + 1) (nodC (j + 1) _ _)
    rw [e]
    exact h
  · dsimp only
    rw [if_pos (by omega), g1 i (by omega)]
    exact ho i hi
  · intro i h0 hi
    rw [List.length_append, hj] at hi
    simp only [List.length_cons, List.length_nil] at hi
    dsimp only
    rcases Nat.lt_or_ge i j with h1 | h1
    · rw [if_pos h1, g1 i h1]; exact hf i h0 h1
    · obtain rfl : i = j := by omega
      rw [if_neg (by omega), g2]
      exact hx

theorem NodMix.set {w0 w : World} {B n0 : Nat} {tn tv : TypeId} {v : Value} {L : List Nod} (h : NodMix w0 w B tn tv v n0 L) {a : Addr} (ha : a.block < B) (u : Value) : NodMix w0 (w.setCell a u) B tn tv v n0 L := by
  obtain ⟨vs, h1, h0, h2⟩ := h
  exact ⟨vs, ownsRow_setCell_below h1 ha u, h0, fun i h0 hi => ownsRow_setCell_below (h2 i h0 hi) ha u⟩

theorem NodMix.nodl {w0 w : World} {B n0 : Nat} {tn tv : TypeId} {v : Value} {L : List Nod} (h : NodMix w0 w B tn tv v n0 L) (hk : Keep [] w0 w) : ∃ A c, v = .slice A L.length c ∧ NodL w A c L := by
  obtain ⟨vs, h1, h0, h2⟩ := h
  refine nodl_of_row h1 (fun i hi => ?_)
  rcases Nat.lt_or_ge i n0 with h3 | h3
  · obtain ⟨A, c, e, hv⟩ := h0 i h3
    exact ⟨A, c, e, hv.keep hk⟩
  · exact owns_vals (h2 i h3 hi)
end Go.Flo
