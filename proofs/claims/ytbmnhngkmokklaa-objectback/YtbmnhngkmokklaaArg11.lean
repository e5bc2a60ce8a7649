/-
  Values, rows of values and words that came in: what a walk is told of them. No conditions.
-/
import Derived.Test.YtbmnhngkmokklaaOb1
namespace Go.Proofs.Ytbmnhngkmokklaa
open Go.RowKit Go.Flo Go.ChangeShapes Go.WideShapes Go.Deep
set_option maxRecDepth 100000

/-- A value's numbers fit their kinds. -/
def VOk (v : Val) : Prop := (-9223372036854775808 ≤ v.n ∧ v.n ≤ 9223372036854775807) ∧ (0 ≤ v.p ∧ v.p < 18446744073709551616) ∧ (0 ≤ v.q ∧ v.q < 18446744073709551616) ∧ -9223372036854775808 ≤ v.r ∧ v.r ≤ 9223372036854775807

theorem _root_.Go.Flo.Wd.of_row {w : World} {a : Option Addr} {len cap : Nat} {zs : List Int}
    (h : (a = none ∧ len = 0 ∧ cap = 0 ∧ zs = []) ∨ ∃ x, a = some x ∧ len ≤ cap ∧ cap ≤ maxLen ∧ zs.length = cap ∧ (∀ i, i < zs.length → w.cell? (x.add i) = some (.int .u64 (zs.getD i 0))) ∧ ∀ n ∈ zs, (Lit.int .u64 n).wf = true) :
    ∃ l : List Int, l.length = len ∧ Wd w a l ∧ (∀ x ∈ l, 0 ≤ x ∧ x < 18446744073709551616) ∧ len ≤ cap ∧ cap ≤ 9223372036854775807 := by
  rcases h with ⟨rfl, rfl, rfl, rfl⟩ | ⟨x, rfl, h1, h2, h3, h4, h5⟩
  · exact ⟨[], rfl, Wd.nil _ _, by simp, by omega, by omega⟩
  · have hm : cap ≤ 9223372036854775807 := by unfold maxLen at h2; omega
    have hl : (zs.take len).length = len := by rw [List.length_take]; omega
    refine ⟨zs.take len, hl, ⟨by omega, fun h0 => ?_⟩, fun y hy => wf_u64 (h5 y (List.mem_of_mem_take hy)), h1, hm⟩
    have hc := h4 0 (by omega)
    have hs := spot_none hc
    obtain ⟨b, o, s⟩ := x
    have hs' : s = none := by
      unfold Addr.add at hs
      split at hs <;> simp_all
    subst hs'
    refine ⟨b, o, rfl, by have := World.block_lt_of_cell? w _ hc; rwa [addr_add0] at this, fun j hj => ?_⟩
    have hj2 : j < len := by omega
    have := h4 j (by omega)
    rw [addr_add0] at this
    rw [this]
    simp [hj2]

/-- A value that came in. -/
def IsVal (v : Value) : Prop := ∃ K n p q r : Int, v = .agg #[.int .i64 K, .int .i64 n, .int .u64 p, .int .u64 q, .int .i64 r] ∧ VOk ⟨K, n, p, q, r⟩

section
variable {H : Type} {enc : TypeId × Value → H} {w : World} {base : Nat} {held : Bool}

theorem cellsVal : Try.prog.cellsOf 26 = 5 := by kernel_rfl

theorem cellsL : Try.prog.cellsOf 2 = 1 := by kernel_rfl

theorem cellsU : Try.prog.cellsOf 24 = 1 := by kernel_rfl

theorem fieldsV : ∃ fs : Array Field, Try.prog.underlying 26 = some (.struct fs) ∧ (fs.map (fun f => (f.type, f.offset))) = #[(3, 0), (2, 1), (24, 2), (24, 3), (3, 4)] :=
  ⟨_, Try.underlying26, by kernel_rfl⟩

theorem openL {fuel : Nat} {v : Value} {x : DataW H × List MemPlace} (h : DataW.trod enc Try.prog w base (fun _ => true) held fuel 2 [v] = some x) : ∃ d : Int, v = .int .i64 d ∧ -9223372036854775808 ≤ d ∧ d ≤ 9223372036854775807 := by
  obtain ⟨d, e0, _, wd⟩ := DataW.trod_int Try.underlying2 h
  simp only [List.cons.injEq, and_true] at e0
  exact ⟨d, e0, wf_i64 wd⟩

theorem openU {fuel : Nat} {v : Value} {x : DataW H × List MemPlace} (h : DataW.trod enc Try.prog w base (fun _ => true) held fuel 24 [v] = some x) : ∃ d : Int, v = .int .u64 d ∧ 0 ≤ d ∧ d < 18446744073709551616 := by
  obtain ⟨d, e0, _, wd⟩ := DataW.trod_int Try.underlying24 h
  simp only [List.cons.injEq, and_true] at e0
  exact ⟨d, e0, wf_u64 wd⟩

theorem open_five {fuel : Nat} {l : List Value} (hl : l.length = 5) {x : DataW H × List MemPlace} (h : DataW.trod enc Try.prog w base (fun _ => true) held fuel 26 l = some x) : ∃ V : Val, l = [.int .i64 V.K, .int .i64 V.n, .int .u64 V.p, .int .u64 V.q, .int .i64 V.r] ∧ VOk V := by
  obtain ⟨fs, hs, hfs⟩ := fieldsV
  match l, hl with
  | [v0, v1, v2, v3, v4], _ =>
    obtain ⟨xs, n, _, _, _, hlen, hg⟩ := DataW.trod_struct hs h
    have get : ∀ (j : Nat) (t : TypeId) (o : Nat), (fs.map (fun f => (f.type, f.offset)))[j]? = some (t, o) → ∃ y, DataW.trod enc Try.prog w base (fun _ => true) held n t (([v0, v1, v2, v3, v4].drop o).take (Try.prog.cellsOf t)) = some y := by
      intro j t o ht
      rw [Array.getElem?_map] at ht
      obtain ⟨f, hfj, he⟩ := Option.map_eq_some_iff.1 ht
      injection he with e1 e2
      subst e1 e2
      have h1 := hg j f hfj
      cases hx : xs[j]? with
      | none =>
        have hj2 := (Array.getElem?_eq_some_iff.1 hfj).1
        rw [List.getElem?_eq_none_iff] at hx
        omega
      | some y => exact ⟨y, by simpa using h1.trans hx⟩
    rw [hfs] at get
    obtain ⟨y0, g0⟩ := get 0 _ _ rfl
    obtain ⟨y1, g1⟩ := get 1 _ _ rfl
    obtain ⟨y2, g2⟩ := get 2 _ _ rfl
    obtain ⟨y3, g3⟩ := get 3 _ _ rfl
    obtain ⟨y4, g4⟩ := get 4 _ _ rfl
    rw [cellsInt] at g0 g4
    rw [cellsL] at g1
    rw [cellsU] at g2 g3
    obtain ⟨K, rfl, _⟩ := open_num (v := v0) (by simpa using g0)
    obtain ⟨n', rfl, n0, n1⟩ := openL (v := v1) (by simpa using g1)
    obtain ⟨p', rfl, p0, p1⟩ := openU (v := v2) (by simpa using g2)
    obtain ⟨q', rfl, q0, q1⟩ := openU (v := v3) (by simpa using g3)
    obtain ⟨r', rfl, r0, r1⟩ := open_num (v := v4) (by simpa using g4)
    exact ⟨⟨K, n', p', q', r'⟩, rfl, ⟨n0, n1⟩, ⟨p0, p1⟩, ⟨q0, q1⟩, r0, r1⟩

theorem open_val {v : Value} {d : DataW H} {p : List MemPlace} {rr : Reach} {bb : Nat} (hv : Value.okWide Try.prog w rr bb 26 v) (h : DataW.Trod enc Try.prog w base (fun _ => true) held 26 v d p) : IsVal v := by
  obtain ⟨fuel, hf⟩ := h
  obtain ⟨fs, hs, _⟩ := fieldsV
  obtain ⟨cs, rfl, hsz⟩ := okWide_struct hs hv
  rw [cellsVal] at hsz
  simp only [Value.cells] at hf
  obtain ⟨V, hV, hok⟩ := open_five (l := cs.toList) (by simpa using hsz) hf
  refine ⟨V.K, V.n, V.p, V.q, V.r, ?_, hok⟩
  congr 1
  exact Array.toList_inj.1 (by simpa using hV)

theorem open_vals {fuel : Nat} {v : Value} {x : DataW H × List MemPlace} (h : DataW.trod enc Try.prog w base (fun _ => true) held fuel 23 [v] = some x) : ∃ (a : Option Addr) (len cap : Nat) (F : Nat → Val), v = .slice a len cap ∧ Vals w a len cap F ∧ ∀ j, j < len → VOk (F j) := by
  obtain ⟨a, len, cap, rfl, h1, h2, h3⟩ := open_row Try.underlying23 5 cellsVal (by omega) h
  by_cases h0 : 0 < len
  · obtain ⟨b, o, rfl, hb, hi⟩ := h3 h0
    have key : ∀ i, ∃ V : Val, i < len → (w.cell? ⟨b, o + i * 5, none⟩ = some (.int .i64 V.K) ∧ w.cell? ⟨b, o + i * 5 + 1, none⟩ = some (.int .i64 V.n) ∧
        w.cell? ⟨b, o + i * 5 + 2, none⟩ = some (.int .u64 V.p) ∧ w.cell? ⟨b, o + i * 5 + 3, none⟩ = some (.int .u64 V.q) ∧ w.cell? ⟨b, o + i * 5 + 4, none⟩ = some (.int .i64 V.r)) ∧ VOk V := by
      intro i
      by_cases hl : i < len
      · obtain ⟨n, cs, y, k1, k2, k3⟩ := hi i hl
        obtain ⟨V, rfl, hok⟩ := open_five k2 k3
        exact ⟨V, fun _ => ⟨⟨by have := k1 0 (by omega); rwa [Nat.add_zero] at this, k1 1 (by omega), k1 2 (by omega), k1 3 (by omega), k1 4 (by omega)⟩, hok⟩⟩
      · exact ⟨z0, fun h => absurd h hl⟩
    obtain ⟨F, hF⟩ := Classical.axiomOfChoice key
    exact ⟨_, len, cap, F, rfl, ⟨h1, h2, fun _ => ⟨b, o, rfl, hb, fun j hj => (hF j hj).1⟩⟩, fun j hj => (hF j hj).2⟩
  · exact ⟨a, len, cap, fun _ => z0, rfl, ⟨h1, h2, fun h => absurd h h0⟩, fun j hj => by omega⟩

theorem open_krow {v : Value} {d : DataW H} {p : List MemPlace} (h : DataW.Trod enc Try.prog w base (fun _ => true) held 22 v d p) (hv : v.cells = #[v]) : ∃ (a : Option Addr) (len cap : Nat) (m : Nat → Nat) (f : Nat → Nat → Int), v = .slice a len cap ∧ KRow w a len cap m f := by
  obtain ⟨fuel, hf⟩ := h
  rw [hv] at hf
  exact open_kinds hf

theorem open_vrow {v : Value} {d : DataW H} {p : List MemPlace} (h : DataW.Trod enc Try.prog w base (fun _ => true) held 23 v d p) (hv : v.cells = #[v]) : ∃ (a : Option Addr) (len cap : Nat) (F : Nat → Val), v = .slice a len cap ∧ Vals w a len cap F ∧ ∀ j, j < len → VOk (F j) := by
  obtain ⟨fuel, hf⟩ := h
  rw [hv] at hf
  exact open_vals hf
end
end Go.Proofs.Ytbmnhngkmokklaa
