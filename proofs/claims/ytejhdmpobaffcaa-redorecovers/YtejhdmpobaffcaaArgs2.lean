/-
  Arguments that are rows of entries, rows of such rows, rows of rows of bytes: what a walk is told of them. No conditions.
-/
import Derived.Test.YtejhdmpobaffcaaRedo2
namespace Go.Proofs.Ytejhdmpobaffcaa
open Go.RowKit Go.Flo Go.ChangeShapes Go.WideShapes Go.Deep
set_option maxRecDepth 100000

/-- A row of entries that came in. -/
def IsEnts (w : World) (a : Option Addr) (len cap : Nat) : Prop := ∃ E, Ents w [] a len cap E ∧ EB E len

/-- A row of rows that came in, each as P says. -/
def IsRows (P : World → Option Addr → Nat → Nat → Prop) (w : World) (a : Option Addr) (len cap : Nat) : Prop :=
  len ≤ cap ∧ cap ≤ 9223372036854775807 ∧ (0 < len → ∃ b o, a = some ⟨b, o, none⟩ ∧ b < w.heap.size ∧ ∀ i, i < len → ∃ A m c, w.cell? ⟨b, o + i, none⟩ = some (.slice A m c) ∧ P w A m c)

/-- A row of picks that came in. -/
def IsPks (w : World) (a : Option Addr) (len cap : Nat) : Prop := ∃ p, Pk w [] a len cap p ∧ ∀ j, 0 ≤ p j ∧ p j < 256

section
variable {H : Type} {enc : TypeId × Value → H} {w : World} {base : Nat} {held : Bool}

theorem fields46 : ∃ fs : Array Field, Try.prog.underlying 46 = some (.struct fs) ∧ oneCellFields Try.prog fs = true ∧ (fs[0]?.map (·.type)) = some 3 ∧ (fs[1]?.map (·.type)) = some 44 :=
  ⟨_, Try.underlying46, by kernel_rfl, by kernel_rfl, by kernel_rfl⟩
theorem cells46 : Try.prog.cellsOf 46 = 2 := by kernel_rfl
theorem cells26 : Try.prog.cellsOf 26 = 1 := by kernel_rfl
theorem cells40 : Try.prog.cellsOf 40 = 1 := by kernel_rfl

theorem open_ent {fuel : Nat} {cs : List Value} {x : DataW H × List MemPlace} {b k : Nat} (hc : ∀ j, j < 2 → w.cell? ⟨b, k + j, none⟩ = cs[j]?) (hl : cs.length = 2)
    (h : DataW.trod enc Try.prog w base (fun _ => true) held fuel 46 cs = some x) : ∃ e : Ent, w.cell? ⟨b, k, none⟩ = some (.int .i64 e.a) ∧ w.cell? ⟨b, k + 1, none⟩ = some (.int .u64 e.v) ∧ -9223372036854775808 ≤ e.a ∧ e.a ≤ 9223372036854775807 ∧ 0 ≤ e.v ∧ e.v < 18446744073709551616 := by
  obtain ⟨fs, hs, hone, f0, f1⟩ := fields46
  obtain ⟨xs, n, _, _, _, _, hf⟩ := DataW.trod_struct hs h
  match cs, hl with
  | [v0, v1], _ =>
    have get : ∀ (j : Nat) (t : TypeId), (fs[j]?.map (·.type)) = some t → ∀ v, [v0, v1][j]? = some v → ∃ y, DataW.trod enc Try.prog w base (fun _ => true) held n t [v] = some y := by
      intro j t ht v hv
      obtain ⟨f, hfj, rfl⟩ := Option.map_eq_some_iff.1 ht
      obtain ⟨ho, hk⟩ := hone_of hone j f hfj
      have h1 := hf j f hfj
      rw [ho, hk] at h1
      have e : ([v0, v1].drop j).take 1 = [v] := by
        have hj := (List.getElem?_eq_some_iff.1 hv).1
        rw [List.drop_eq_getElem_cons hj]
        simp only [List.take_succ_cons, List.take_zero]
        rw [(List.getElem?_eq_some_iff.1 hv).2]
      rw [e] at h1
      cases hx : xs[j]? with
      | none =>
        have : xs.length = fs.size := by assumption
        have hj2 := (Array.getElem?_eq_some_iff.1 hfj).1
        rw [List.getElem?_eq_none_iff] at hx
        omega
      | some y => exact ⟨y, h1.trans hx⟩
    obtain ⟨y0, h0⟩ := get 0 3 f0 v0 rfl
    obtain ⟨y1, h1⟩ := get 1 44 f1 v1 rfl
    obtain ⟨d, e0, _, wd⟩ := DataW.trod_int Try.underlying3 h0
    obtain ⟨u, e2, _, wu⟩ := DataW.trod_int Try.underlying44 h1
    simp only [List.cons.injEq, and_true] at e0 e2
    subst e0 e2
    have a0 := wf_i64 wd
    have a2 := wf_u64 wu
    exact ⟨⟨d, u⟩, (hc 0 (by omega)).trans rfl, (hc 1 (by omega)).trans rfl, a0.1, a0.2, a2.1, a2.2⟩

theorem addr_none (b o k : Nat) : (⟨b, o, none⟩ : Addr).add k = ⟨b, o + k, none⟩ := by unfold Addr.add; split <;> simp_all

/-- What a slice's elements are, cell by cell. -/
theorem open_row {fuel : Nat} {t e : TypeId} {v : Value} {x : DataW H × List MemPlace} (hu : Try.prog.underlying t = some (.slice e)) (m : Nat) (hm : Try.prog.cellsOf e = m) (m0 : 0 < m) (h : DataW.trod enc Try.prog w base (fun _ => true) held fuel t [v] = some x) :
    ∃ (a : Option Addr) (len cap : Nat), v = .slice a len cap ∧ len ≤ cap ∧ cap ≤ 9223372036854775807 ∧ (0 < len → ∃ b o, a = some ⟨b, o, none⟩ ∧ b < w.heap.size ∧ ∀ i, i < len → ∃ n cs y, (∀ j, j < m → w.cell? ⟨b, o + i * m + j, none⟩ = cs[j]?) ∧ cs.length = m ∧ DataW.trod enc Try.prog w base (fun _ => true) held n e cs = some y) := by
  rcases open_slice hu h with ⟨hcs, _⟩ | ⟨x, l, c, mm, n, D, Pl, hcs, _, hl, hmx, hmm, _, hi⟩
  · simp at hcs
    subst hcs
    exact ⟨none, 0, 0, rfl, by omega, by omega, fun h => absurd h (by omega)⟩
  · simp at hcs
    subst hcs
    unfold maxLen at hmx
    simp at hmm
    subst hmm
    refine ⟨some x, l, _, rfl, hl, by omega, fun hp => ?_⟩
    have key : ∀ i, i < l → ∃ cs', (∀ j, j < m → w.cell? (x.add (i * m + j)) = cs'[j]?) ∧ cs'.length = m ∧ DataW.trod enc Try.prog w base (fun _ => true) held n e cs' = some (D i, Pl i) := by
      intro i hi'
      obtain ⟨cs', h1, h2⟩ := hi i (by omega)
      rw [hm] at h1
      obtain ⟨_, h3, h4⟩ := World.cells?_some h1
      exact ⟨cs', fun j hj => by rw [← h4 j hj, add_add'], h3, h2⟩
    obtain ⟨cs0, k1, k2, _⟩ := key 0 hp
    have hc0 : ∃ v, w.cell? (x.add (0 * m + 0)) = some v := by
      rw [k1 0 (by omega)]
      exact ⟨cs0[0], List.getElem?_eq_getElem (by omega)⟩
    obtain ⟨v, hv⟩ := hc0
    have hx0 : x.add (0 * m + 0) = x := by simp [Addr.add]
    rw [hx0] at hv
    have hsp := spot_none hv
    obtain ⟨b, o, sp⟩ := x
    dsimp only at hsp
    subst hsp
    refine ⟨b, o, rfl, World.block_lt_of_cell? w _ hv, fun i hi' => ?_⟩
    obtain ⟨cs', h1, h2, h3⟩ := key i hi'
    refine ⟨n, cs', _, fun j hj => ?_, h2, h3⟩
    rw [← h1 j hj, addr_none]
    rw [Nat.add_assoc]

theorem open_ents' {fuel : Nat} {v : Value} {x : DataW H × List MemPlace} (h : DataW.trod enc Try.prog w base (fun _ => true) held fuel 26 [v] = some x) : ∃ (a : Option Addr) (len cap : Nat), v = .slice a len cap ∧ IsEnts w a len cap := by
  obtain ⟨a, len, cap, rfl, h1, h2, h3⟩ := open_row Try.underlying26 2 cells46 (by omega) h
  refine ⟨a, len, cap, rfl, ?_⟩
  by_cases h0 : 0 < len
  · obtain ⟨b, o, rfl, hb, hi⟩ := h3 h0
    have key : ∀ i, ∃ e : Ent, i < len → w.cell? ⟨b, o + i * 2, none⟩ = some (.int .i64 e.a) ∧ w.cell? ⟨b, o + i * 2 + 1, none⟩ = some (.int .u64 e.v) ∧ -9223372036854775808 ≤ e.a ∧ e.a ≤ 9223372036854775807 ∧ 0 ≤ e.v ∧ e.v < 18446744073709551616 := by
      intro i
      by_cases hl : i < len
      · obtain ⟨n, cs, y, k1, k2, k3⟩ := hi i hl
        obtain ⟨e, he⟩ := open_ent k1 k2 k3
        exact ⟨e, fun _ => he⟩
      · exact ⟨⟨0, 0⟩, fun h => absurd h hl⟩
    obtain ⟨E, hE⟩ := Classical.axiomOfChoice key
    exact ⟨E, ⟨h1, h2, fun _ => ⟨b, o, rfl, by simp, hb, fun j hj => ⟨(hE j hj).1, (hE j hj).2.1⟩⟩⟩, fun j hj => (hE j hj).2.2⟩
  · exact ⟨fun _ => ⟨0, 0⟩, ⟨h1, h2, fun h => absurd h h0⟩, fun j hj => absurd hj (by omega)⟩

theorem open_ents {a : Option Addr} {len cap : Nat} {d : DataW H} {p : List MemPlace} (h : DataW.Trod enc Try.prog w base (fun _ => true) held 26 (.slice a len cap) d p) : IsEnts w a len cap := by
  obtain ⟨fuel, hf⟩ := h
  obtain ⟨a', l', c', e, h'⟩ := open_ents' (v := .slice a len cap) (by simpa [Value.cells] using hf)
  injection e with e1 e2 e3
  subst e1 e2 e3
  exact h'

theorem open_pks' {fuel : Nat} {v : Value} {x : DataW H × List MemPlace} (h : DataW.trod enc Try.prog w base (fun _ => true) held fuel 40 [v] = some x) : ∃ (a : Option Addr) (len cap : Nat), v = .slice a len cap ∧ IsPks w a len cap := by
  obtain ⟨A, m, c, p, e, h1, h2⟩ := open_picks h
  exact ⟨A, m, c, e, p, h1, h2⟩
theorem open_pks {a : Option Addr} {len cap : Nat} {d : DataW H} {p : List MemPlace} (h : DataW.Trod enc Try.prog w base (fun _ => true) held 40 (.slice a len cap) d p) : IsPks w a len cap := by
  obtain ⟨fuel, hf⟩ := h
  obtain ⟨a', l', c', e, h'⟩ := open_pks' (v := .slice a len cap) (by simpa [Value.cells] using hf)
  injection e with e1 e2 e3
  subst e1 e2 e3
  exact h'

theorem open_rows {t e : TypeId} {P : World → Option Addr → Nat → Nat → Prop} (hu : Try.prog.underlying t = some (.slice e)) (hm : Try.prog.cellsOf e = 1) (hP : ∀ {fuel : Nat} {v : Value} {x : DataW H × List MemPlace}, DataW.trod enc Try.prog w base (fun _ => true) held fuel e [v] = some x → ∃ (a : Option Addr) (len cap : Nat), v = .slice a len cap ∧ P w a len cap)
    {a : Option Addr} {len cap : Nat} {d : DataW H} {p : List MemPlace} (h : DataW.Trod enc Try.prog w base (fun _ => true) held t (.slice a len cap) d p) : IsRows P w a len cap := by
  obtain ⟨fuel, hf⟩ := h
  obtain ⟨a', l', c', e, h1, h2, h3⟩ := open_row hu 1 hm (by omega) (v := .slice a len cap) (by simpa [Value.cells] using hf)
  injection e with e1 e2 e3
  subst e1 e2 e3
  refine ⟨h1, h2, fun h0 => ?_⟩
  obtain ⟨b, o, rfl, hb, hi⟩ := h3 h0
  refine ⟨b, o, rfl, hb, fun i hl => ?_⟩
  obtain ⟨n, cs, y, k1, k2, k3⟩ := hi i hl
  match cs, k2 with
  | [v], _ =>
    obtain ⟨A, m, c, rfl, hp⟩ := hP k3
    refine ⟨A, m, c, ?_, hp⟩
    have := k1 0 (by omega)
    simpa using this

theorem open_pickss {a : Option Addr} {len cap : Nat} {d : DataW H} {p : List MemPlace} (h : DataW.Trod enc Try.prog w base (fun _ => true) held 57 (.slice a len cap) d p) : IsRows IsPks w a len cap := open_rows Try.underlying57 cells40 open_pks' h
theorem open_entss {a : Option Addr} {len cap : Nat} {d : DataW H} {p : List MemPlace} (h : DataW.Trod enc Try.prog w base (fun _ => true) held 59 (.slice a len cap) d p) : IsRows IsEnts w a len cap := open_rows Try.underlying59 cells26 open_ents' h
end
end Go.Proofs.Ytejhdmpobaffcaa
