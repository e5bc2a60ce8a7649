/-
  A config that came in: what a walk is told of it. No conditions.
-/
import Derived.Test.YtfihaaciaobolaaLcp
import Derived.ProofKit
import Derived.OpenShut
import Derived.Deep.Slices
import Derived.Deep.Fields
import Derived.ChangeSame
namespace Go.Proofs.Ytfihaaciaobolaa
open Go.RowKit Go.Flo Go.ChangeShapes Go.WideShapes Go.Deep
set_option maxRecDepth 100000

theorem wf_i64 {x : Int} (h : (Lit.int .i64 x).wf = true) : -9223372036854775808 ≤ x ∧ x ≤ 9223372036854775807 := by
  simp [Lit.wf] at h
  have e := h
  have e1 : IntKind.i64.min = -9223372036854775808 := by decide
  have e2 : IntKind.i64.max = 9223372036854775807 := by decide
  omega
theorem wf_u64 {x : Int} (h : (Lit.int .u64 x).wf = true) : 0 ≤ x ∧ x < 18446744073709551616 := by
  simp [Lit.wf] at h
  have e := h
  have e1 : IntKind.u64.min = 0 := by decide
  have e2 : IntKind.u64.max = 18446744073709551615 := by decide
  omega
theorem spot_none {w : World} {a : Addr} {v : Value} (h : w.cell? a = some v) : a.spot = none := by
  unfold World.cell? at h
  split at h
  · split at h
    · cases h
    · rename_i hs
      cases e : a.spot with
      | none => rfl
      | some _ => rw [e] at hs; simp at hs
  · cases h
theorem add_add' (a : Addr) (i j : Nat) : (a.add i).add j = a.add (i + j) := by
  unfold Addr.add
  by_cases hi : i = 0 <;> by_cases hj : j = 0 <;> simp [hi, hj, Nat.add_assoc]

/-- A config that came in. -/
def IsCfg (w : World) (v : Value) : Prop :=
  ∃ (A : Option Addr) (n cap : Nat) (m : Nat → Nat) (f : Nat → Nat → Int) (b0 b1 b2 b3 r wk lg : Int),
    v = .agg #[.slice A n cap, .int .i64 b0, .int .i64 b1, .int .i64 b2, .int .i64 b3, .int .i64 r, .int .i64 wk, .int .i64 lg] ∧ KRow w A n cap m f ∧ (-9223372036854775808 ≤ lg ∧ lg ≤ 9223372036854775807)

section
variable {H : Type} {enc : TypeId × Value → H} {w : World} {base : Nat} {held : Bool}

/-- What a slice's elements are, cell by cell. -/
theorem open_row {fuel : Nat} {t e : TypeId} {v : Value} {x : DataW H × List MemPlace} (hu : Try.prog.underlying t = some (.slice e)) (m : Nat) (hm : Try.prog.cellsOf e = m) (m0 : 0 < m) (h : DataW.trod enc Try.prog w base (fun _ => true) held fuel t [v] = some x) :
    ∃ (a : Option Addr) (len cap : Nat), v = .slice a len cap ∧ len ≤ cap ∧ cap ≤ 9223372036854775807 ∧ (0 < len → ∃ b o, a = some ⟨b, o, none⟩ ∧ b < w.heap.size ∧ ∀ i, i < len → ∃ n cs y, (∀ j, j < m → w.cell? ⟨b, o + i * m + j, none⟩ = cs[j]?) ∧ cs.length = m ∧ DataW.trod enc Try.prog w base (fun _ => true) held n e cs = some y) := by
  rcases open_slice hu h with ⟨hcs, _⟩ | ⟨x, l, c, mm, n, D, Pl, hcs, _, hl, hmx, hmm, _, hi⟩
  · simp at hcs
    subst hcs
    exact ⟨none, 0, 0, rfl, by omega, by omega, fun h => absurd h (by omega)⟩
  · simp at hcs
    subst hcs
    unfold maxLen at hmx
    simp at hmm
    subst hmm
    refine ⟨some x, l, _, rfl, hl, by omega, fun hp => ?_⟩
    have key : ∀ i, i < l → ∃ cs', (∀ j, j < m → w.cell? (x.add (i * m + j)) = cs'[j]?) ∧ cs'.length = m ∧ DataW.trod enc Try.prog w base (fun _ => true) held n e cs' = some (D i, Pl i) := by
      intro i hi'
      obtain ⟨cs', h1, h2⟩ := hi i (by omega)
      rw [hm] at h1
      obtain ⟨_, h3, h4⟩ := World.cells?_some h1
      exact ⟨cs', fun j hj => by rw [← h4 j hj, add_add'], h3, h2⟩
    obtain ⟨cs0, k1, k2, _⟩ := key 0 hp
    have hc0 : ∃ v, w.cell? (x.add (0 * m + 0)) = some v := by
      rw [k1 0 (by omega)]
      exact ⟨cs0[0], List.getElem?_eq_getElem (by omega)⟩
    obtain ⟨v, hv⟩ := hc0
    have hx0 : x.add (0 * m + 0) = x := by simp [Addr.add]
    rw [hx0] at hv
    have hsp := spot_none hv
    obtain ⟨b, o, sp⟩ := x
    dsimp only at hsp
    subst hsp
    refine ⟨b, o, rfl, World.block_lt_of_cell? w _ hv, fun i hi' => ?_⟩
    obtain ⟨cs', h1, h2, h3⟩ := key i hi'
    refine ⟨n, cs', _, fun j hj => ?_, h2, h3⟩
    rw [← h1 j hj, addr_add0]
    rw [Nat.add_assoc]

theorem cellsInt : Try.prog.cellsOf 3 = 1 := by kernel_rfl
theorem cellsKind : Try.prog.cellsOf 71 = 1 := by kernel_rfl
theorem cellsInts : Try.prog.cellsOf 43 = 1 := by kernel_rfl
theorem cellsKinds : Try.prog.cellsOf 25 = 1 := by kernel_rfl
theorem cellsArr : Try.prog.cellsOf 22 = 4 := by kernel_rfl
theorem cellsCfg : Try.prog.cellsOf 27 = 8 := by kernel_rfl
theorem fieldsKind : ∃ f0 : Field, Try.prog.underlying 71 = some (.struct #[f0]) ∧ f0.type = 43 ∧ f0.offset = 0 := ⟨_, Try.underlying71, by kernel_rfl, by kernel_rfl⟩
theorem fieldsCfg : ∃ fs : Array Field, Try.prog.underlying 27 = some (.struct fs) ∧ (fs.map (fun f => (f.type, f.offset))) = #[(25, 0), (22, 1), (3, 5), (3, 6), (3, 7)] :=
  ⟨_, Try.underlying27, by kernel_rfl⟩

theorem open_num {fuel : Nat} {v : Value} {x : DataW H × List MemPlace} (h : DataW.trod enc Try.prog w base (fun _ => true) held fuel 3 [v] = some x) : ∃ d : Int, v = .int .i64 d ∧ -9223372036854775808 ≤ d ∧ d ≤ 9223372036854775807 := by
  obtain ⟨d, e0, _, wd⟩ := DataW.trod_int Try.underlying3 h
  simp only [List.cons.injEq, and_true] at e0
  exact ⟨d, e0, wf_i64 wd⟩

theorem open_nums {fuel : Nat} {v : Value} {x : DataW H × List MemPlace} (h : DataW.trod enc Try.prog w base (fun _ => true) held fuel 43 [v] = some x) : ∃ (a : Option Addr) (len cap : Nat) (f : Nat → Int), v = .slice a len cap ∧ Ints w a len cap f := by
  have hnil : ∀ a : Option Addr, ∀ len cap : Nat, v = .slice a len cap → a = none → len = 0 ∧ cap = 0 := by
    intro a len cap hv ha
    subst hv ha
    rcases open_slice Try.underlying43 h with ⟨hcs, _⟩ | ⟨x, l, c, mm, n, D, Pl, hcs, _⟩
    · simp at hcs
      exact hcs
    · simp at hcs
  obtain ⟨a, len, cap, rfl, h1, h2, h3⟩ := open_row Try.underlying43 1 cellsInt (by omega) h
  by_cases h0 : 0 < len
  · obtain ⟨b, o, rfl, hb, hi⟩ := h3 h0
    have key : ∀ i, ∃ d : Int, i < len → w.cell? ⟨b, o + i, none⟩ = some (.int .i64 d) := by
      intro i
      by_cases hl : i < len
      · obtain ⟨n, cs, y, k1, k2, k3⟩ := hi i hl
        match cs, k2 with
        | [c], _ =>
          obtain ⟨d, rfl, _⟩ := open_num k3
          refine ⟨d, fun _ => ?_⟩
          have := k1 0 (by omega)
          simpa using this
      · exact ⟨0, fun h => absurd h hl⟩
    obtain ⟨f, hf⟩ := Classical.axiomOfChoice key
    exact ⟨_, len, cap, f, rfl, h1, hnil _ len cap rfl, h2, fun _ => ⟨b, o, rfl, hb, fun j hj => hf j hj⟩⟩
  · exact ⟨a, len, cap, fun _ => 0, rfl, h1, hnil a len cap rfl, h2, fun h => absurd h h0⟩

theorem open_kinds {fuel : Nat} {v : Value} {x : DataW H × List MemPlace} (h : DataW.trod enc Try.prog w base (fun _ => true) held fuel 25 [v] = some x) : ∃ (a : Option Addr) (len cap : Nat) (m : Nat → Nat) (f : Nat → Nat → Int), v = .slice a len cap ∧ KRow w a len cap m f := by
  obtain ⟨a, len, cap, rfl, h1, h2, h3⟩ := open_row Try.underlying25 1 cellsKind (by omega) h
  by_cases h0 : 0 < len
  · obtain ⟨b, o, rfl, hb, hi⟩ := h3 h0
    have key : ∀ i, ∃ mf : Nat × (Nat → Int), i < len → ∃ A' c', w.cell? ⟨b, o + i, none⟩ = some (.slice A' mf.1 c') ∧ Ints w A' mf.1 c' mf.2 := by
      intro i
      by_cases hl : i < len
      · obtain ⟨n, cs, y, k1, k2, k3⟩ := hi i hl
        match cs, k2 with
        | [c], _ =>
          obtain ⟨f0, hs, ht, ho⟩ := fieldsKind
          obtain ⟨y0, n', _, _, hy⟩ := trod_struct1 hs k3
          rw [ht, ho, cellsInts] at hy
          obtain ⟨A', m', c', f', rfl, hI⟩ := open_nums (v := c) (by simpa using hy)
          refine ⟨(m', f'), fun _ => ⟨A', c', ?_, hI⟩⟩
          have := k1 0 (by omega)
          simpa using this
      · exact ⟨(0, fun _ => 0), fun h => absurd h hl⟩
    obtain ⟨mf, hmf⟩ := Classical.axiomOfChoice key
    exact ⟨_, len, cap, fun i => (mf i).1, fun i => (mf i).2, rfl, h1, h2, fun _ => ⟨b, o, rfl, hb, fun i hi' => hmf i hi'⟩⟩
  · exact ⟨a, len, cap, fun _ => 0, fun _ _ => 0, rfl, h1, h2, fun h => absurd h h0⟩

theorem open_cfg {v : Value} {d : DataW H} {p : List MemPlace} {rr : Reach} {bb : Nat} (hv : Value.okWide Try.prog w rr bb 27 v) (h : DataW.Trod enc Try.prog w base (fun _ => true) held 27 v d p) : IsCfg w v := by
  obtain ⟨fuel, hf⟩ := h
  obtain ⟨fs, hs, hfs⟩ := fieldsCfg
  obtain ⟨cs, rfl, hsz⟩ := okWide_struct hs hv
  rw [cellsCfg] at hsz
  obtain ⟨l, rfl⟩ : ∃ l : List Value, cs = l.toArray := ⟨cs.toList, by simp⟩
  simp only [Value.cells] at hf
  match l, hsz with
  | [v0, v1, v2, v3, v4, v5, v6, v7], _ =>
    obtain ⟨xs, n, _, _, _, hlen, hg⟩ := DataW.trod_struct hs hf
    have get : ∀ (j : Nat) (t : TypeId) (o : Nat), (fs.map (fun f => (f.type, f.offset)))[j]? = some (t, o) → ∃ y, DataW.trod enc Try.prog w base (fun _ => true) held n t (([v0, v1, v2, v3, v4, v5, v6, v7].drop o).take (Try.prog.cellsOf t)) = some y := by
      intro j t o ht
      rw [Array.getElem?_map] at ht
      obtain ⟨f, hfj, he⟩ := Option.map_eq_some_iff.1 ht
      injection he with e1 e2
      subst e1 e2
      have h1 := hg j f hfj
      cases hx : xs[j]? with
      | none =>
        have hj2 := (Array.getElem?_eq_some_iff.1 hfj).1
        rw [List.getElem?_eq_none_iff] at hx
        omega
      | some y => exact ⟨y, by simpa using h1.trans hx⟩
    rw [hfs] at get
    obtain ⟨y0, g0⟩ := get 0 _ _ rfl
    obtain ⟨y1, g1⟩ := get 1 _ _ rfl
    obtain ⟨y2, g2⟩ := get 2 _ _ rfl
    obtain ⟨y3, g3⟩ := get 3 _ _ rfl
    obtain ⟨y4, g4⟩ := get 4 _ _ rfl
    rw [cellsKinds] at g0
    rw [cellsArr] at g1
    rw [cellsInt] at g2 g3 g4
    obtain ⟨A, nn, cap, m, f, rfl, hK⟩ := open_kinds (v := v0) (by simpa using g0)
    obtain ⟨r, rfl, _⟩ := open_num (v := v5) (by simpa using g2)
    obtain ⟨wk, rfl, _⟩ := open_num (v := v6) (by simpa using g3)
    obtain ⟨lg, rfl, hlg⟩ := open_num (v := v7) (by simpa using g4)
    obtain ⟨zs, k, _, _, _, hz, ha⟩ := DataW.trod_array Try.underlying22 g1
    have geta : ∀ i, i < 4 → ∃ y, DataW.trod enc Try.prog w base (fun _ => true) held k 3 (([v1, v2, v3, v4].drop i).take 1) = some y := by
      intro i hi
      have h1 := ha i hi
      rw [cellsInt] at h1
      cases hx : zs[i]? with
      | none =>
        rw [List.getElem?_eq_none_iff] at hx
        omega
      | some y => exact ⟨y, by simpa using h1.trans hx⟩
    obtain ⟨z1, a1⟩ := geta 0 (by omega)
    obtain ⟨z2, a2⟩ := geta 1 (by omega)
    obtain ⟨z3, a3⟩ := geta 2 (by omega)
    obtain ⟨z4, a4⟩ := geta 3 (by omega)
    obtain ⟨b0, rfl, _⟩ := open_num (v := v1) (by simpa using a1)
    obtain ⟨b1, rfl, _⟩ := open_num (v := v2) (by simpa using a2)
    obtain ⟨b2, rfl, _⟩ := open_num (v := v3) (by simpa using a3)
    obtain ⟨b3, rfl, _⟩ := open_num (v := v4) (by simpa using a4)
    exact ⟨A, nn, cap, m, f, b0, b1, b2, b3, r, wk, lg, rfl, hK, hlg⟩
end
end Go.Proofs.Ytfihaaciaobolaa
