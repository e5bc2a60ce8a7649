/-
  Graphs, values, rows of numbers that came in: what a walk is told of them. No conditions.
-/
import Derived.Test.YtigclopkoolocaaDoorGr1
import Derived.ProofKit
import Derived.OpenShut
import Derived.Deep.Slices
import Derived.Deep.Fields
import Derived.ChangeSame
namespace Go.Proofs.YtigclopkoolocaaDoor
open Go.RowKit Go.Flo Go.ChangeShapes Go.WideShapes Go.Deep
set_option maxRecDepth 100000

theorem wf_i64 {x : Int} (h : (Lit.int .i64 x).wf = true) : -9223372036854775808 ≤ x ∧ x ≤ 9223372036854775807 := by
  simp [Lit.wf] at h
  have e := h
  have e1 : IntKind.i64.min = -9223372036854775808 := by decide
  have e2 : IntKind.i64.max = 9223372036854775807 := by decide
  omega

theorem wf_u64 {x : Int} (h : (Lit.int .u64 x).wf = true) : 0 ≤ x ∧ x < 18446744073709551616 := by
  simp [Lit.wf] at h
  have e := h
  have e1 : IntKind.u64.min = 0 := by decide
  have e2 : IntKind.u64.max = 18446744073709551615 := by decide
  omega

theorem spot_none {w : World} {a : Addr} {v : Value} (h : w.cell? a = some v) : a.spot = none := by
  unfold World.cell? at h
  split at h
  · split at h
    · cases h
    · rename_i hs
      cases e : a.spot with
      | none => rfl
      | some _ => rw [e] at hs; simp at hs
  · cases h

theorem add_add' (a : Addr) (i j : Nat) : (a.add i).add j = a.add (i + j) := by
  unfold Addr.add
  by_cases hi : i = 0 <;> by_cases hj : j = 0 <;> simp [hi, hj, Nat.add_assoc]

/-- A value's numbers fit their kinds. -/
def VOk (v : Val) : Prop := (-9223372036854775808 ≤ v.n ∧ v.n ≤ 9223372036854775807) ∧ (0 ≤ v.p ∧ v.p < 18446744073709551616) ∧ (0 ≤ v.q ∧ v.q < 18446744073709551616) ∧ -9223372036854775808 ≤ v.r ∧ v.r ≤ 9223372036854775807

/-- A value that came in. -/
def IsVal (v : Value) : Prop := ∃ K n p q r : Int, v = .agg #[.int .i64 K, .int .i64 n, .int .u64 p, .int .u64 q, .int .i64 r] ∧ VOk ⟨K, n, p, q, r⟩


section
variable {H : Type} {enc : TypeId × Value → H} {w : World} {base : Nat} {held : Bool}

/-- What a slice's elements are, cell by cell. -/
theorem open_row {fuel : Nat} {t e : TypeId} {v : Value} {x : DataW H × List MemPlace} (hu : Tryd.prog.underlying t = some (.slice e)) (m : Nat) (hm : Tryd.prog.cellsOf e = m) (m0 : 0 < m) (h : DataW.trod enc Tryd.prog w base (fun _ => true) held fuel t [v] = some x) :
    ∃ (a : Option Addr) (len cap : Nat), v = .slice a len cap ∧ len ≤ cap ∧ cap ≤ 9223372036854775807 ∧ (0 < len → ∃ b o, a = some ⟨b, o, none⟩ ∧ b < w.heap.size ∧ ∀ i, i < len → ∃ n cs y, (∀ j, j < m → w.cell? ⟨b, o + i * m + j, none⟩ = cs[j]?) ∧ cs.length = m ∧ DataW.trod enc Tryd.prog w base (fun _ => true) held n e cs = some y) := by
  rcases open_slice hu h with ⟨hcs, _⟩ | ⟨x, l, c, mm, n, D, Pl, hcs, _, hl, hmx, hmm, _, hi⟩
  · simp at hcs
    subst hcs
    exact ⟨none, 0, 0, rfl, by omega, by omega, fun h => absurd h (by omega)⟩
  · simp at hcs
    subst hcs
    unfold maxLen at hmx
    simp at hmm
    subst hmm
    refine ⟨some x, l, _, rfl, hl, by omega, fun hp => ?_⟩
    have key : ∀ i, i < l → ∃ cs', (∀ j, j < m → w.cell? (x.add (i * m + j)) = cs'[j]?) ∧ cs'.length = m ∧ DataW.trod enc Tryd.prog w base (fun _ => true) held n e cs' = some (D i, Pl i) := by
      intro i hi'
      obtain ⟨cs', h1, h2⟩ := hi i (by omega)
      rw [hm] at h1
      obtain ⟨_, h3, h4⟩ := World.cells?_some h1
      exact ⟨cs', fun j hj => by rw [← h4 j hj, add_add'], h3, h2⟩
    obtain ⟨cs0, k1, k2, _⟩ := key 0 hp
    have hc0 : ∃ v, w.cell? (x.add (0 * m + 0)) = some v := by
      rw [k1 0 (by omega)]
      exact ⟨cs0[0], List.getElem?_eq_getElem (by omega)⟩
    obtain ⟨v, hv⟩ := hc0
    have hx0 : x.add (0 * m + 0) = x := by simp [Addr.add]
    rw [hx0] at hv
    have hsp := spot_none hv
    obtain ⟨b, o, sp⟩ := x
    dsimp only at hsp
    subst hsp
    refine ⟨b, o, rfl, World.block_lt_of_cell? w _ hv, fun i hi' => ?_⟩
    obtain ⟨cs', h1, h2, h3⟩ := key i hi'
    refine ⟨n, cs', _, fun j hj => ?_, h2, h3⟩
    rw [← h1 j hj, addr_add0]
    rw [Nat.add_assoc]

theorem cellsInt : Tryd.prog.cellsOf 3 = 1 := by kernel_rfl

theorem cellsInts : Tryd.prog.cellsOf 23 = 1 := by kernel_rfl

theorem open_num {fuel : Nat} {v : Value} {x : DataW H × List MemPlace} (h : DataW.trod enc Tryd.prog w base (fun _ => true) held fuel 3 [v] = some x) : ∃ d : Int, v = .int .i64 d ∧ -9223372036854775808 ≤ d ∧ d ≤ 9223372036854775807 := by
  obtain ⟨d, e0, _, wd⟩ := DataW.trod_int Tryd.underlying3 h
  simp only [List.cons.injEq, and_true] at e0
  exact ⟨d, e0, wf_i64 wd⟩

theorem open_nums {fuel : Nat} {v : Value} {x : DataW H × List MemPlace} (h : DataW.trod enc Tryd.prog w base (fun _ => true) held fuel 23 [v] = some x) : ∃ (a : Option Addr) (len cap : Nat) (f : Nat → Int), v = .slice a len cap ∧ Ints w a len cap f := by
  have hnil : ∀ a : Option Addr, ∀ len cap : Nat, v = .slice a len cap → a = none → len = 0 ∧ cap = 0 := by
    intro a len cap hv ha
    subst hv ha
    rcases open_slice Tryd.underlying23 h with ⟨hcs, _⟩ | ⟨x, l, c, mm, n, D, Pl, hcs, _⟩
    · simp at hcs
      exact hcs
    · simp at hcs
  obtain ⟨a, len, cap, rfl, h1, h2, h3⟩ := open_row Tryd.underlying23 1 cellsInt (by omega) h
  by_cases h0 : 0 < len
  · obtain ⟨b, o, rfl, hb, hi⟩ := h3 h0
    have key : ∀ i, ∃ d : Int, i < len → w.cell? ⟨b, o + i, none⟩ = some (.int .i64 d) := by
      intro i
      by_cases hl : i < len
      · obtain ⟨n, cs, y, k1, k2, k3⟩ := hi i hl
        match cs, k2 with
        | [c], _ =>
          obtain ⟨d, rfl, _⟩ := open_num k3
          refine ⟨d, fun _ => ?_⟩
          have := k1 0 (by omega)
          simpa using this
      · exact ⟨0, fun h => absurd h hl⟩
    obtain ⟨f, hf⟩ := Classical.axiomOfChoice key
    exact ⟨_, len, cap, f, rfl, h1, hnil _ len cap rfl, h2, fun _ => ⟨b, o, rfl, hb, fun j hj => hf j hj⟩⟩
  · exact ⟨a, len, cap, fun _ => 0, rfl, h1, hnil a len cap rfl, h2, fun h => absurd h h0⟩

theorem cellsVal : Tryd.prog.cellsOf 36 = 5 := by kernel_rfl

theorem cellsL : Tryd.prog.cellsOf 2 = 1 := by kernel_rfl

theorem cellsU : Tryd.prog.cellsOf 34 = 1 := by kernel_rfl

theorem fieldsV : ∃ fs : Array Field, Tryd.prog.underlying 36 = some (.struct fs) ∧ (fs.map (fun f => (f.type, f.offset))) = #[(3, 0), (2, 1), (34, 2), (34, 3), (3, 4)] :=
  ⟨_, Tryd.underlying36, by kernel_rfl⟩

theorem openL {fuel : Nat} {v : Value} {x : DataW H × List MemPlace} (h : DataW.trod enc Tryd.prog w base (fun _ => true) held fuel 2 [v] = some x) : ∃ d : Int, v = .int .i64 d ∧ -9223372036854775808 ≤ d ∧ d ≤ 9223372036854775807 := by
  obtain ⟨d, e0, _, wd⟩ := DataW.trod_int Tryd.underlying2 h
  simp only [List.cons.injEq, and_true] at e0
  exact ⟨d, e0, wf_i64 wd⟩

theorem openU {fuel : Nat} {v : Value} {x : DataW H × List MemPlace} (h : DataW.trod enc Tryd.prog w base (fun _ => true) held fuel 34 [v] = some x) : ∃ d : Int, v = .int .u64 d ∧ 0 ≤ d ∧ d < 18446744073709551616 := by
  obtain ⟨d, e0, _, wd⟩ := DataW.trod_int Tryd.underlying34 h
  simp only [List.cons.injEq, and_true] at e0
  exact ⟨d, e0, wf_u64 wd⟩

theorem open_five {fuel : Nat} {l : List Value} (hl : l.length = 5) {x : DataW H × List MemPlace} (h : DataW.trod enc Tryd.prog w base (fun _ => true) held fuel 36 l = some x) : ∃ V : Val, l = [.int .i64 V.K, .int .i64 V.n, .int .u64 V.p, .int .u64 V.q, .int .i64 V.r] ∧ VOk V := by
  obtain ⟨fs, hs, hfs⟩ := fieldsV
  match l, hl with
  | [v0, v1, v2, v3, v4], _ =>
    obtain ⟨xs, n, _, _, _, hlen, hg⟩ := DataW.trod_struct hs h
    have get : ∀ (j : Nat) (t : TypeId) (o : Nat), (fs.map (fun f => (f.type, f.offset)))[j]? = some (t, o) → ∃ y, DataW.trod enc Tryd.prog w base (fun _ => true) held n t (([v0, v1, v2, v3, v4].drop o).take (Tryd.prog.cellsOf t)) = some y := by
      intro j t o ht
      rw [Array.getElem?_map] at ht
      obtain ⟨f, hfj, he⟩ := Option.map_eq_some_iff.1 ht
      injection he with e1 e2
      subst e1 e2
      have h1 := hg j f hfj
      cases hx : xs[j]? with
      | none =>
        have hj2 := (Array.getElem?_eq_some_iff.1 hfj).1
        rw [List.getElem?_eq_none_iff] at hx
        omega
      | some y => exact ⟨y, by simpa using h1.trans hx⟩
    rw [hfs] at get
    obtain ⟨y0, g0⟩ := get 0 _ _ rfl
    obtain ⟨y1, g1⟩ := get 1 _ _ rfl
    obtain ⟨y2, g2⟩ := get 2 _ _ rfl
    obtain ⟨y3, g3⟩ := get 3 _ _ rfl
    obtain ⟨y4, g4⟩ := get 4 _ _ rfl
    rw [cellsInt] at g0 g4
    rw [cellsL] at g1
    rw [cellsU] at g2 g3
    obtain ⟨K, rfl, _⟩ := open_num (v := v0) (by simpa using g0)
    obtain ⟨n', rfl, n0, n1⟩ := openL (v := v1) (by simpa using g1)
    obtain ⟨p', rfl, p0, p1⟩ := openU (v := v2) (by simpa using g2)
    obtain ⟨q', rfl, q0, q1⟩ := openU (v := v3) (by simpa using g3)
    obtain ⟨r', rfl, r0, r1⟩ := open_num (v := v4) (by simpa using g4)
    exact ⟨⟨K, n', p', q', r'⟩, rfl, ⟨n0, n1⟩, ⟨p0, p1⟩, ⟨q0, q1⟩, r0, r1⟩

theorem open_val {v : Value} {d : DataW H} {p : List MemPlace} {rr : Reach} {bb : Nat} (hv : Value.okWide Tryd.prog w rr bb 36 v) (h : DataW.Trod enc Tryd.prog w base (fun _ => true) held 36 v d p) : IsVal v := by
  obtain ⟨fuel, hf⟩ := h
  obtain ⟨fs, hs, _⟩ := fieldsV
  obtain ⟨cs, rfl, hsz⟩ := okWide_struct hs hv
  rw [cellsVal] at hsz
  simp only [Value.cells] at hf
  obtain ⟨V, hV, hok⟩ := open_five (l := cs.toList) (by simpa using hsz) hf
  refine ⟨V.K, V.n, V.p, V.q, V.r, ?_, hok⟩
  congr 1
  exact Array.toList_inj.1 (by simpa using hV)

theorem open_vals {fuel : Nat} {v : Value} {x : DataW H × List MemPlace} (h : DataW.trod enc Tryd.prog w base (fun _ => true) held fuel 31 [v] = some x) : ∃ (a : Option Addr) (len cap : Nat) (F : Nat → Val), v = .slice a len cap ∧ Vals w a len cap F ∧ ∀ j, j < len → VOk (F j) := by
  obtain ⟨a, len, cap, rfl, h1, h2, h3⟩ := open_row Tryd.underlying31 5 cellsVal (by omega) h
  by_cases h0 : 0 < len
  · obtain ⟨b, o, rfl, hb, hi⟩ := h3 h0
    have key : ∀ i, ∃ V : Val, i < len → (w.cell? ⟨b, o + i * 5, none⟩ = some (.int .i64 V.K) ∧ w.cell? ⟨b, o + i * 5 + 1, none⟩ = some (.int .i64 V.n) ∧
        w.cell? ⟨b, o + i * 5 + 2, none⟩ = some (.int .u64 V.p) ∧ w.cell? ⟨b, o + i * 5 + 3, none⟩ = some (.int .u64 V.q) ∧ w.cell? ⟨b, o + i * 5 + 4, none⟩ = some (.int .i64 V.r)) ∧ VOk V := by
      intro i
      by_cases hl : i < len
      · obtain ⟨n, cs, y, k1, k2, k3⟩ := hi i hl
        obtain ⟨V, rfl, hok⟩ := open_five k2 k3
        exact ⟨V, fun _ => ⟨⟨by have := k1 0 (by omega); rwa [Nat.add_zero] at this, k1 1 (by omega), k1 2 (by omega), k1 3 (by omega), k1 4 (by omega)⟩, hok⟩⟩
      · exact ⟨z0, fun h => absurd h hl⟩
    obtain ⟨F, hF⟩ := Classical.axiomOfChoice key
    exact ⟨_, len, cap, F, rfl, ⟨h1, h2, fun _ => ⟨b, o, rfl, hb, fun j hj => (hF j hj).1⟩⟩, fun j hj => (hF j hj).2⟩
  · exact ⟨a, len, cap, fun _ => z0, rfl, ⟨h1, h2, fun h => absurd h h0⟩, fun j hj => by omega⟩

theorem cellsNode : Tryd.prog.cellsOf 33 = 2 := by kernel_rfl

theorem cellsVals : Tryd.prog.cellsOf 31 = 1 := by kernel_rfl

theorem cellsNodes : Tryd.prog.cellsOf 22 = 1 := by kernel_rfl

theorem cellsGraph : Tryd.prog.cellsOf 25 = 3 := by kernel_rfl

theorem fieldsNode : ∃ fs : Array Field, Tryd.prog.underlying 33 = some (.struct fs) ∧ (fs.map (fun f => (f.type, f.offset))) = #[(3, 0), (31, 1)] :=
  ⟨_, Tryd.underlying33, by kernel_rfl⟩

theorem fieldsGraph : ∃ fs : Array Field, Tryd.prog.underlying 25 = some (.struct fs) ∧ (fs.map (fun f => (f.type, f.offset))) = #[(22, 0), (23, 1), (23, 2)] :=
  ⟨_, Tryd.underlying25, by kernel_rfl⟩

/-- A node's numbers fit their kinds. -/
def NodOk (x : Nod) : Prop := (-9223372036854775808 ≤ x.K ∧ x.K ≤ 9223372036854775807) ∧ ∀ v ∈ x.fs, VOk v

theorem getD_range {α : Type} (F : Nat → α) (d : α) (n j : Nat) (h : j < n) : ((List.range n).map F).getD j d = F j := by simp [List.getD_eq_getElem?_getD, h]

theorem open_node {fuel : Nat} {l : List Value} (hl : l.length = 2) {x : DataW H × List MemPlace} (h : DataW.trod enc Tryd.prog w base (fun _ => true) held fuel 33 l = some x) :
    ∃ (N : Nod) (A : Option Addr) (c : Nat), l = [.int .i64 N.K, .slice A N.fs.length c] ∧ Vals w A N.fs.length c (fun j => N.fs.getD j z0) ∧ NodOk N := by
  obtain ⟨fs, hs, hfs⟩ := fieldsNode
  match l, hl with
  | [v0, v1], _ =>
    obtain ⟨xs, n, _, _, _, hlen, hg⟩ := DataW.trod_struct hs h
    have get : ∀ (j : Nat) (t : TypeId) (o : Nat), (fs.map (fun f => (f.type, f.offset)))[j]? = some (t, o) → ∃ y, DataW.trod enc Tryd.prog w base (fun _ => true) held n t (([v0, v1].drop o).take (Tryd.prog.cellsOf t)) = some y := by
      intro j t o ht
      rw [Array.getElem?_map] at ht
      obtain ⟨f, hfj, he⟩ := Option.map_eq_some_iff.1 ht
      injection he with e1 e2
      subst e1 e2
      have h1 := hg j f hfj
      cases hx : xs[j]? with
      | none =>
        have hj2 := (Array.getElem?_eq_some_iff.1 hfj).1
        rw [List.getElem?_eq_none_iff] at hx
        omega
      | some y => exact ⟨y, by simpa using h1.trans hx⟩
    rw [hfs] at get
    obtain ⟨y0, g0⟩ := get 0 _ _ rfl
    obtain ⟨y1, g1⟩ := get 1 _ _ rfl
    rw [cellsInt] at g0
    rw [cellsVals] at g1
    obtain ⟨K, rfl, hK⟩ := open_num (v := v0) (by simpa using g0)
    obtain ⟨A, len, cap, F, rfl, hV, hok⟩ := open_vals (v := v1) (by simpa using g1)
    refine ⟨⟨K, (List.range len).map F⟩, A, cap, by simp, ?_, hK, ?_⟩
    · show Vals w A ((List.range len).map F).length cap _
      rw [List.length_map, List.length_range]
      exact hV.congr (fun j hj => (getD_range F z0 len j hj).symm)
    · intro v hv
      obtain ⟨j, hj, rfl⟩ := List.mem_map.1 hv
      exact hok j (List.mem_range.1 hj)

theorem open_nodes {fuel : Nat} {v : Value} {x : DataW H × List MemPlace} (h : DataW.trod enc Tryd.prog w base (fun _ => true) held fuel 22 [v] = some x) :
    ∃ (A : Option Addr) (c : Nat) (L : List Nod), v = .slice A L.length c ∧ NodL w A c L ∧ ∀ x ∈ L, NodOk x := by
  obtain ⟨a, len, cap, rfl, h1, h2, h3⟩ := open_row Tryd.underlying22 2 cellsNode (by omega) h
  by_cases h0 : 0 < len
  · obtain ⟨b, o, rfl, hb, hi⟩ := h3 h0
    have key : ∀ i, ∃ N : Nod, i < len → (∃ A' c', w.cell? ⟨b, o + i * 2, none⟩ = some (.int .i64 N.K) ∧ w.cell? ⟨b, o + i * 2 + 1, none⟩ = some (.slice A' N.fs.length c') ∧ Vals w A' N.fs.length c' (fun j => N.fs.getD j z0)) ∧ NodOk N := by
      intro i
      by_cases hl : i < len
      · obtain ⟨n, cs, y, k1, k2, k3⟩ := hi i hl
        obtain ⟨N, A', c', rfl, hV, hok⟩ := open_node k2 k3
        exact ⟨N, fun _ => ⟨⟨A', c', by have := k1 0 (by omega); rwa [Nat.add_zero] at this, k1 1 (by omega), hV⟩, hok⟩⟩
      · exact ⟨nod0, fun h => absurd h hl⟩
    obtain ⟨G, hG⟩ := Classical.axiomOfChoice key
    refine ⟨_, cap, (List.range len).map G, by rw [List.length_map, List.length_range], ⟨by rw [List.length_map, List.length_range]; exact h1, h2, fun _ => ⟨b, o, rfl, hb, fun i hi' => ?_⟩⟩, ?_⟩
    · rw [List.length_map, List.length_range] at hi'
      rw [getD_range G nod0 len i hi']
      exact (hG i hi').1
    · intro x hx
      obtain ⟨j, hj, rfl⟩ := List.mem_map.1 hx
      exact (hG j (List.mem_range.1 hj)).2
  · obtain rfl : len = 0 := by omega
    exact ⟨a, cap, [], rfl, ⟨by simp, h2, by simp⟩, by simp⟩

theorem open_intl {fuel : Nat} {v : Value} {x : DataW H × List MemPlace} (h : DataW.trod enc Tryd.prog w base (fun _ => true) held fuel 23 [v] = some x) : ∃ (A : Option Addr) (c : Nat) (l : List Int), v = .slice A l.length c ∧ IntL w A c l := by
  obtain ⟨A, len, cap, f, rfl, hI⟩ := open_nums h
  refine ⟨A, cap, (List.range len).map f, by rw [List.length_map, List.length_range], ?_⟩
  show Ints w A ((List.range len).map f).length cap _
  rw [List.length_map, List.length_range]
  exact hI.congr (fun j hj => (getD_range f 0 len j hj).symm)

/-- A graph that came in. -/
def IsGr (w : World) (v : Value) : Prop := ∃ (A0 A1 A2 : Option Addr) (c0 c1 c2 : Nat) (g : Gr), v = .agg #[.slice A0 g.nodes.length c0, .slice A1 g.roots.length c1, .slice A2 g.weaks.length c2] ∧ GIn w A0 A1 A2 c0 c1 c2 g ∧ ∀ x ∈ g.nodes, NodOk x

theorem open_graph {v : Value} {d : DataW H} {p : List MemPlace} {rr : Reach} {bb : Nat} (hv : Value.okWide Tryd.prog w rr bb 25 v) (h : DataW.Trod enc Tryd.prog w base (fun _ => true) held 25 v d p) : IsGr w v := by
  obtain ⟨fuel, hf⟩ := h
  obtain ⟨fs, hs, hfs⟩ := fieldsGraph
  obtain ⟨cs, rfl, hsz⟩ := okWide_struct hs hv
  rw [cellsGraph] at hsz
  obtain ⟨l, rfl⟩ : ∃ l : List Value, cs = l.toArray := ⟨cs.toList, by simp⟩
  simp only [Value.cells] at hf
  match l, hsz with
  | [v0, v1, v2], _ =>
    obtain ⟨xs, n, _, _, _, hlen, hg⟩ := DataW.trod_struct hs hf
    have get : ∀ (j : Nat) (t : TypeId) (o : Nat), (fs.map (fun f => (f.type, f.offset)))[j]? = some (t, o) → ∃ y, DataW.trod enc Tryd.prog w base (fun _ => true) held n t (([v0, v1, v2].drop o).take (Tryd.prog.cellsOf t)) = some y := by
      intro j t o ht
      rw [Array.getElem?_map] at ht
      obtain ⟨f, hfj, he⟩ := Option.map_eq_some_iff.1 ht
      injection he with e1 e2
      subst e1 e2
      have h1 := hg j f hfj
      cases hx : xs[j]? with
      | none =>
        have hj2 := (Array.getElem?_eq_some_iff.1 hfj).1
        rw [List.getElem?_eq_none_iff] at hx
        omega
      | some y => exact ⟨y, by simpa using h1.trans hx⟩
    rw [hfs] at get
    obtain ⟨y0, g0⟩ := get 0 _ _ rfl
    obtain ⟨y1, g1⟩ := get 1 _ _ rfl
    obtain ⟨y2, g2⟩ := get 2 _ _ rfl
    rw [cellsNodes] at g0
    rw [cellsInts] at g1 g2
    obtain ⟨A0, c0, L, rfl, hN, hok⟩ := open_nodes (v := v0) (by simpa using g0)
    obtain ⟨A1, c1, l1, rfl, h1⟩ := open_intl (v := v1) (by simpa using g1)
    obtain ⟨A2, c2, l2, rfl, h2⟩ := open_intl (v := v2) (by simpa using g2)
    exact ⟨A0, A1, A2, c0, c1, c2, ⟨L, l1, l2⟩, rfl, ⟨hN, h1, h2⟩, hok⟩

/-- A node that came in. -/
def IsNod (w : World) (v : Value) : Prop := ∃ (A : Option Addr) (c : Nat) (K : Int) (f : List Val), v = .agg #[.int .i64 K, .slice A f.length c] ∧ Vals w A f.length c (fun j => f.getD j z0) ∧ NodOk ⟨K, f⟩

theorem open_nodev {v : Value} {d : DataW H} {p : List MemPlace} {rr : Reach} {bb : Nat} (hv : Value.okWide Tryd.prog w rr bb 33 v) (h : DataW.Trod enc Tryd.prog w base (fun _ => true) held 33 v d p) : IsNod w v := by
  obtain ⟨fuel, hf⟩ := h
  obtain ⟨fs, hs, hfs⟩ := fieldsNode
  obtain ⟨cs, rfl, hsz⟩ := okWide_struct hs hv
  rw [cellsNode] at hsz
  simp only [Value.cells] at hf
  obtain ⟨N, A, c, hl, hV, hok⟩ := open_node (l := cs.toList) (by simpa using hsz) hf
  refine ⟨A, c, N.K, N.fs, ?_, hV, hok⟩
  congr 1
  exact Array.toList_inj.1 (by simpa using hl)

theorem open_ilist {v : Value} {d : DataW H} {p : List MemPlace} (h : DataW.Trod enc Tryd.prog w base (fun _ => true) held 23 v d p) (hv : v.cells = #[v]) : ∃ (A : Option Addr) (c : Nat) (l : List Int), v = .slice A l.length c ∧ IntL w A c l := by
  obtain ⟨fuel, hf⟩ := h
  rw [hv] at hf
  exact open_intl hf
end
end Go.Proofs.YtigclopkoolocaaDoor
