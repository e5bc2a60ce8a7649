/-
  Values and words that came in: what a walk is told of them. No conditions.
-/
import Derived.Test.YtjnaglellobmmaaDoorVal5
import Derived.ProofKit
import Derived.OpenShut
import Derived.Deep.Slices
import Derived.Deep.Fields
import Derived.ChangeSame
namespace Go.Proofs.YtjnaglellobmmaaDoor
open Go.RowKit Go.Flo Go.ChangeShapes Go.WideShapes Go.Deep
set_option maxRecDepth 100000

theorem wf_i64 {x : Int} (h : (Lit.int .i64 x).wf = true) : -9223372036854775808 ≤ x ∧ x ≤ 9223372036854775807 := by
  simp [Lit.wf] at h
  have e := h
  have e1 : IntKind.i64.min = -9223372036854775808 := by decide
  have e2 : IntKind.i64.max = 9223372036854775807 := by decide
  omega
theorem wf_u64 {x : Int} (h : (Lit.int .u64 x).wf = true) : 0 ≤ x ∧ x < 18446744073709551616 := by
  simp [Lit.wf] at h
  have e := h
  have e1 : IntKind.u64.min = 0 := by decide
  have e2 : IntKind.u64.max = 18446744073709551615 := by decide
  omega

theorem spotN {w : World} {a : Addr} {v : Value} (h : w.cell? a = some v) : a.spot = none := by
  unfold World.cell? at h
  split at h
  · split at h
    · cases h
    · rename_i hs
      cases e : a.spot with
      | none => rfl
      | some _ => rw [e] at hs; simp at hs
  · cases h

theorem addr_add0 (b o j : Nat) : (⟨b, o, none⟩ : Addr).add j = ⟨b, o + j, none⟩ := by unfold Addr.add; split <;> simp_all

theorem _root_.Go.Flo.Wd.of_row {w : World} {a : Option Addr} {len cap : Nat} {zs : List Int}
    (h : (a = none ∧ len = 0 ∧ cap = 0 ∧ zs = []) ∨ ∃ x, a = some x ∧ len ≤ cap ∧ cap ≤ maxLen ∧ zs.length = cap ∧ (∀ i, i < zs.length → w.cell? (x.add i) = some (.int .u64 (zs.getD i 0))) ∧ ∀ n ∈ zs, (Lit.int .u64 n).wf = true) :
    ∃ l : List Int, l.length = len ∧ Wd w a l ∧ (∀ x ∈ l, 0 ≤ x ∧ x < 18446744073709551616) ∧ len ≤ cap ∧ cap ≤ 9223372036854775807 := by
  rcases h with ⟨rfl, rfl, rfl, rfl⟩ | ⟨x, rfl, h1, h2, h3, h4, h5⟩
  · exact ⟨[], rfl, Wd.nil _ _, by simp, by omega, by omega⟩
  · have hm : cap ≤ 9223372036854775807 := by unfold maxLen at h2; omega
    have hl : (zs.take len).length = len := by rw [List.length_take]; omega
    refine ⟨zs.take len, hl, ⟨by omega, fun h0 => ?_⟩, fun y hy => wf_u64 (h5 y (List.mem_of_mem_take hy)), h1, hm⟩
    have hc := h4 0 (by omega)
    have hs := spotN hc
    obtain ⟨b, o, s⟩ := x
    have hs' : s = none := by
      unfold Addr.add at hs
      split at hs <;> simp_all
    subst hs'
    refine ⟨b, o, rfl, by have := World.block_lt_of_cell? w _ hc; rwa [addr_add0] at this, fun j hj => ?_⟩
    have hj2 : j < len := by omega
    have := h4 j (by omega)
    rw [addr_add0] at this
    rw [this]
    simp [List.getElem?_take, hj2]

/-- A value that came in. -/
def IsVal (v : Value) : Prop := ∃ K n p q r : Int, v = .agg #[.int .i64 K, .int .i64 n, .int .u64 p, .int .u64 q, .int .i64 r] ∧ VOk ⟨K, n, p, q, r⟩

section
variable {H : Type} {enc : TypeId × Value → H} {w : World} {base : Nat} {held : Bool}

theorem cellsV : Tryd.prog.cellsOf 24 = 5 := by kernel_rfl
theorem cells1i : Tryd.prog.cellsOf 3 = 1 := by kernel_rfl
theorem cells1l : Tryd.prog.cellsOf 2 = 1 := by kernel_rfl
theorem cells1u : Tryd.prog.cellsOf 22 = 1 := by kernel_rfl
theorem fieldsV : ∃ fs : Array Field, Tryd.prog.underlying 24 = some (.struct fs) ∧ (fs.map (fun f => (f.type, f.offset))) = #[(3, 0), (2, 1), (22, 2), (22, 3), (3, 4)] :=
  ⟨_, Tryd.underlying24, by kernel_rfl⟩

theorem openI {fuel : Nat} {v : Value} {x : DataW H × List MemPlace} (h : DataW.trod enc Tryd.prog w base (fun _ => true) held fuel 3 [v] = some x) : ∃ d : Int, v = .int .i64 d ∧ -9223372036854775808 ≤ d ∧ d ≤ 9223372036854775807 := by
  obtain ⟨d, e0, _, wd⟩ := DataW.trod_int Tryd.underlying3 h
  simp only [List.cons.injEq, and_true] at e0
  exact ⟨d, e0, wf_i64 wd⟩
theorem openL {fuel : Nat} {v : Value} {x : DataW H × List MemPlace} (h : DataW.trod enc Tryd.prog w base (fun _ => true) held fuel 2 [v] = some x) : ∃ d : Int, v = .int .i64 d ∧ -9223372036854775808 ≤ d ∧ d ≤ 9223372036854775807 := by
  obtain ⟨d, e0, _, wd⟩ := DataW.trod_int Tryd.underlying2 h
  simp only [List.cons.injEq, and_true] at e0
  exact ⟨d, e0, wf_i64 wd⟩
theorem openU {fuel : Nat} {v : Value} {x : DataW H × List MemPlace} (h : DataW.trod enc Tryd.prog w base (fun _ => true) held fuel 22 [v] = some x) : ∃ d : Int, v = .int .u64 d ∧ 0 ≤ d ∧ d < 18446744073709551616 := by
  obtain ⟨d, e0, _, wd⟩ := DataW.trod_int Tryd.underlying22 h
  simp only [List.cons.injEq, and_true] at e0
  exact ⟨d, e0, wf_u64 wd⟩

theorem open_val {v : Value} {d : DataW H} {p : List MemPlace} {rr : Reach} {bb : Nat} (hv : Value.okWide Tryd.prog w rr bb 24 v) (h : DataW.Trod enc Tryd.prog w base (fun _ => true) held 24 v d p) : IsVal v := by
  obtain ⟨fuel, hf⟩ := h
  obtain ⟨fs, hs, hfs⟩ := fieldsV
  obtain ⟨cs, rfl, hsz⟩ := okWide_struct hs hv
  rw [cellsV] at hsz
  obtain ⟨l, rfl⟩ : ∃ l : List Value, cs = l.toArray := ⟨cs.toList, by simp⟩
  simp only [Value.cells] at hf
  match l, hsz with
  | [v0, v1, v2, v3, v4], _ =>
    obtain ⟨xs, n, _, _, _, hlen, hg⟩ := DataW.trod_struct hs hf
    have get : ∀ (j : Nat) (t : TypeId) (o : Nat), (fs.map (fun f => (f.type, f.offset)))[j]? = some (t, o) → ∃ y, DataW.trod enc Tryd.prog w base (fun _ => true) held n t (([v0, v1, v2, v3, v4].drop o).take (Tryd.prog.cellsOf t)) = some y := by
      intro j t o ht
      rw [Array.getElem?_map] at ht
      obtain ⟨f, hfj, he⟩ := Option.map_eq_some_iff.1 ht
      injection he with e1 e2
      subst e1 e2
      have h1 := hg j f hfj
      cases hx : xs[j]? with
      | none =>
        have hj2 := (Array.getElem?_eq_some_iff.1 hfj).1
        rw [List.getElem?_eq_none_iff] at hx
        omega
      | some y => exact ⟨y, by simpa using h1.trans hx⟩
    rw [hfs] at get
    obtain ⟨y0, g0⟩ := get 0 _ _ rfl
    obtain ⟨y1, g1⟩ := get 1 _ _ rfl
    obtain ⟨y2, g2⟩ := get 2 _ _ rfl
    obtain ⟨y3, g3⟩ := get 3 _ _ rfl
    obtain ⟨y4, g4⟩ := get 4 _ _ rfl
    rw [cells1i] at g0 g4
    rw [cells1l] at g1
    rw [cells1u] at g2 g3
    obtain ⟨K, rfl, _⟩ := openI (v := v0) (by simpa using g0)
    obtain ⟨n', rfl, n0, n1⟩ := openL (v := v1) (by simpa using g1)
    obtain ⟨p', rfl, p0, p1⟩ := openU (v := v2) (by simpa using g2)
    obtain ⟨q', rfl, q0, q1⟩ := openU (v := v3) (by simpa using g3)
    obtain ⟨r', rfl, r0, r1⟩ := openI (v := v4) (by simpa using g4)
    exact ⟨K, n', p', q', r', rfl, n0, n1, p0, p1, q0, q1, r0, r1⟩
end
end Go.Proofs.YtjnaglellobmmaaDoor
