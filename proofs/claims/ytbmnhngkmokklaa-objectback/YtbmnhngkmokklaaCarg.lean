/-
  A config that came in: what a walk is told of it. No conditions.
-/
import Derived.Test.YtbmnhngkmokklaaLcp
import Derived.ProofKit
import Derived.OpenShut
import Derived.Deep.Slices
import Derived.Deep.Fields
import Derived.ChangeSame
namespace Go.Proofs.Ytbmnhngkmokklaa
open Go.RowKit Go.Flo Go.ChangeShapes Go.WideShapes Go.Deep
set_option maxRecDepth 100000

theorem wf_i64 {x : Int} (h : (Lit.int .i64 x).wf = true) : -9223372036854775808 ≤ x ∧ x ≤ 9223372036854775807 := by
  simp [Lit.wf] at h
  have e := h
  have e1 : IntKind.i64.min = -9223372036854775808 := by decide
  have e2 : IntKind.i64.max = 9223372036854775807 := by decide
  omega
theorem wf_u64 {x : Int} (h : (Lit.int .u64 x).wf = true) : 0 ≤ x ∧ x < 18446744073709551616 := by
  simp [Lit.wf] at h
  have e := h
  have e1 : IntKind.u64.min = 0 := by decide
  have e2 : IntKind.u64.max = 18446744073709551615 := by decide
  omega
theorem spot_none {w : World} {a : Addr} {v : Value} (h : w.cell? a = some v) : a.spot = none := by
  unfold World.cell? at h
  split at h
  · split at h
    · cases h
    · rename_i hs
      cases e : a.spot with
      | none => rfl
      | some _ => rw [e] at hs; simp at hs
  · cases h
theorem add_add' (a : Addr) (i j : Nat) : (a.add i).add j = a.add (i + j) := by
  unfold Addr.add
  by_cases hi : i = 0 <;> by_cases hj : j = 0 <;> simp [hi, hj, Nat.add_assoc]

/-- A config that came in. -/
def IsCfg (w : World) (v : Value) : Prop :=
  ∃ (A : Option Addr) (n cap : Nat) (m : Nat → Nat) (f : Nat → Nat → Int) (b0 b1 b2 b3 r wk lg : Int),
    v = .agg #[.slice A n cap, .int .i64 b0, .int .i64 b1, .int .i64 b2, .int .i64 b3, .int .i64 r, .int .i64 wk, .int .i64 lg] ∧ KRow w A n cap m f ∧ (-9223372036854775808 ≤ lg ∧ lg ≤ 9223372036854775807)

section
variable {H : Type} {enc : TypeId × Value → H} {w : World} {base : Nat} {held : Bool}

/-- What a slice's elements are, cell by cell. -/
theorem open_row {fuel : Nat} {t e : TypeId} {v : Value} {x : DataW H × List MemPlace} (hu : Try.prog.underlying t = some (.slice e)) (m : Nat) (hm : Try.prog.cellsOf e = m) (m0 : 0 < m) (h : DataW.trod enc Try.prog w base (fun _ => true) held fuel t [v] = some x) :
    ∃ (a : Option Addr) (len cap : Nat), v = .slice a len cap ∧ len ≤ cap ∧ cap ≤ 9223372036854775807 ∧ (0 < len → ∃ b o, a = some ⟨b, o, none⟩ ∧ b < w.heap.size ∧ ∀ i, i < len → ∃ n cs y, (∀ j, j < m → w.cell? ⟨b, o + i * m + j, none⟩ = cs[j]?) ∧ cs.length = m ∧ DataW.trod enc Try.prog w base (fun _ => true) held n e cs = some y) := by
  rcases open_slice hu h with ⟨hcs, _⟩ | ⟨x, l, c, mm, n, D, Pl, hcs, _, hl, hmx, hmm, _, hi⟩
  · simp at hcs
    subst hcs
    exact ⟨none, 0, 0, rfl, by omega, by omega, fun h => absurd h (by omega)⟩
  · simp at hcs
    subst hcs
    unfold maxLen at hmx
    simp at hmm
    subst hmm
    refine ⟨some x, l, _, rfl, hl, by omega, fun hp => ?_⟩
    have key : ∀ i, i < l → ∃ cs', (∀ j, j < m → w.cell? (x.add (i * m + j)) = cs'[j]?) ∧ cs'.length = m ∧ DataW.trod enc Try.prog w base (fun _ => true) held n e cs' = some (D i, Pl i) := by
      intro i hi'
      obtain ⟨cs', h1, h2⟩ := hi i (by omega)
      rw [hm] at h1
      obtain ⟨_, h3, h4⟩ := World.cells?_some h1
      exact ⟨cs', fun j hj => by rw [← h4 j hj, add_add'], h3, h2⟩
    obtain ⟨cs0, k1, k2, _⟩ := key 0 hp
    have hc0 : ∃ v, w.cell? (x.add (0 * m + 0)) = some v := by
      rw [k1 0 (by omega)]
      exact ⟨cs0[0], List.getElem?_eq_getElem (by omega)⟩
    obtain ⟨v, hv⟩ := hc0
    have hx0 : x.add (0 * m + 0) = x := by simp [Addr.add]
    rw [hx0] at hv
    have hsp := spot_none hv
    obtain ⟨b, o, sp⟩ := x
    dsimp only at hsp
    subst hsp
    refine ⟨b, o, rfl, World.block_lt_of_cell? w _ hv, fun i hi' => ?_⟩
    obtain ⟨cs', h1, h2, h3⟩ := key i hi'
    refine ⟨n, cs', _, fun j hj => ?_, h2, h3⟩
    rw [← h1 j hj, addr_add0]
    rw [Nat.add_assoc]

theorem cellsInt : Try.prog.cellsOf 3 = 1 := by kernel_rfl

theorem cellsKind : Try.prog.cellsOf 47 = 1 := by kernel_rfl

theorem cellsInts : Try.prog.cellsOf 45 = 1 := by kernel_rfl

theorem cellsKinds : Try.prog.cellsOf 22 = 1 := by kernel_rfl

theorem fieldsKind : ∃ f0 : Field, Try.prog.underlying 47 = some (.struct #[f0]) ∧ f0.type = 45 ∧ f0.offset = 0 := ⟨_, Try.underlying47, by kernel_rfl, by kernel_rfl⟩

theorem open_num {fuel : Nat} {v : Value} {x : DataW H × List MemPlace} (h : DataW.trod enc Try.prog w base (fun _ => true) held fuel 3 [v] = some x) : ∃ d : Int, v = .int .i64 d ∧ -9223372036854775808 ≤ d ∧ d ≤ 9223372036854775807 := by
  obtain ⟨d, e0, _, wd⟩ := DataW.trod_int Try.underlying3 h
  simp only [List.cons.injEq, and_true] at e0
  exact ⟨d, e0, wf_i64 wd⟩

theorem open_nums {fuel : Nat} {v : Value} {x : DataW H × List MemPlace} (h : DataW.trod enc Try.prog w base (fun _ => true) held fuel 45 [v] = some x) : ∃ (a : Option Addr) (len cap : Nat) (f : Nat → Int), v = .slice a len cap ∧ Ints w a len cap f := by
  have hnil : ∀ a : Option Addr, ∀ len cap : Nat, v = .slice a len cap → a = none → len = 0 ∧ cap = 0 := by
    intro a len cap hv ha
    subst hv ha
    rcases open_slice Try.underlying45 h with ⟨hcs, _⟩ | ⟨x, l, c, mm, n, D, Pl, hcs, _⟩
    · simp at hcs
      exact hcs
    · simp at hcs
  obtain ⟨a, len, cap, rfl, h1, h2, h3⟩ := open_row Try.underlying45 1 cellsInt (by omega) h
  by_cases h0 : 0 < len
  · obtain ⟨b, o, rfl, hb, hi⟩ := h3 h0
    have key : ∀ i, ∃ d : Int, i < len → w.cell? ⟨b, o + i, none⟩ = some (.int .i64 d) := by
      intro i
      by_cases hl : i < len
      · obtain ⟨n, cs, y, k1, k2, k3⟩ := hi i hl
        match cs, k2 with
        | [c], _ =>
          obtain ⟨d, rfl, _⟩ := open_num k3
          refine ⟨d, fun _ => ?_⟩
          have := k1 0 (by omega)
          simpa using this
      · exact ⟨0, fun h => absurd h hl⟩
    obtain ⟨f, hf⟩ := Classical.axiomOfChoice key
    exact ⟨_, len, cap, f, rfl, h1, hnil _ len cap rfl, h2, fun _ => ⟨b, o, rfl, hb, fun j hj => hf j hj⟩⟩
  · exact ⟨a, len, cap, fun _ => 0, rfl, h1, hnil a len cap rfl, h2, fun h => absurd h h0⟩

theorem open_kinds {fuel : Nat} {v : Value} {x : DataW H × List MemPlace} (h : DataW.trod enc Try.prog w base (fun _ => true) held fuel 22 [v] = some x) : ∃ (a : Option Addr) (len cap : Nat) (m : Nat → Nat) (f : Nat → Nat → Int), v = .slice a len cap ∧ KRow w a len cap m f := by
  obtain ⟨a, len, cap, rfl, h1, h2, h3⟩ := open_row Try.underlying22 1 cellsKind (by omega) h
  by_cases h0 : 0 < len
  · obtain ⟨b, o, rfl, hb, hi⟩ := h3 h0
    have key : ∀ i, ∃ mf : Nat × (Nat → Int), i < len → ∃ A' c', w.cell? ⟨b, o + i, none⟩ = some (.slice A' mf.1 c') ∧ Ints w A' mf.1 c' mf.2 := by
      intro i
      by_cases hl : i < len
      · obtain ⟨n, cs, y, k1, k2, k3⟩ := hi i hl
        match cs, k2 with
        | [c], _ =>
          obtain ⟨f0, hs, ht, ho⟩ := fieldsKind
          obtain ⟨y0, n', _, _, hy⟩ := trod_struct1 hs k3
          rw [ht, ho, cellsInts] at hy
          obtain ⟨A', m', c', f', rfl, hI⟩ := open_nums (v := c) (by simpa using hy)
          refine ⟨(m', f'), fun _ => ⟨A', c', ?_, hI⟩⟩
          have := k1 0 (by omega)
          simpa using this
      · exact ⟨(0, fun _ => 0), fun h => absurd h hl⟩
    obtain ⟨mf, hmf⟩ := Classical.axiomOfChoice key
    exact ⟨_, len, cap, fun i => (mf i).1, fun i => (mf i).2, rfl, h1, h2, fun _ => ⟨b, o, rfl, hb, fun i hi' => hmf i hi'⟩⟩
  · exact ⟨a, len, cap, fun _ => 0, fun _ _ => 0, rfl, h1, h2, fun h => absurd h h0⟩

end
end Go.Proofs.Ytbmnhngkmokklaa
