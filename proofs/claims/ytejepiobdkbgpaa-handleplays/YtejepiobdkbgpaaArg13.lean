/-
  Rows of numbers, rows of scullionlaw13.Call that came in: what a walk is told of them. No conditions.
-/
import Derived.Test.YtejepiobdkbgpaaHn0
import Derived.ProofKit
import Derived.OpenShut
import Derived.Deep.Slices
import Derived.Deep.Fields
import Derived.ChangeSame
namespace Go.Proofs.Ytejepiobdkbgpaa
open Go.RowKit Go.Flo Go.ChangeShapes Go.WideShapes Go.Deep
set_option maxRecDepth 100000

theorem wf_i64 {x : Int} (h : (Lit.int .i64 x).wf = true) : -9223372036854775808 ≤ x ∧ x ≤ 9223372036854775807 := by
  simp [Lit.wf] at h
  have e := h
  have e1 : IntKind.i64.min = -9223372036854775808 := by decide
  have e2 : IntKind.i64.max = 9223372036854775807 := by decide
  omega

theorem spot_none {w : World} {a : Addr} {v : Value} (h : w.cell? a = some v) : a.spot = none := by
  unfold World.cell? at h
  split at h
  · split at h
    · cases h
    · rename_i hs
      cases e : a.spot with
      | none => rfl
      | some _ => rw [e] at hs; simp at hs
  · cases h

theorem add_add' (a : Addr) (i j : Nat) : (a.add i).add j = a.add (i + j) := by
  unfold Addr.add
  by_cases hi : i = 0 <;> by_cases hj : j = 0 <;> simp [hi, hj, Nat.add_assoc]

theorem getD_range {α : Type} (F : Nat → α) (d : α) (n j : Nat) (h : j < n) : ((List.range n).map F).getD j d = F j := by simp [List.getD_eq_getElem?_getD, h]

/-- A call that came in stands at place i of a row. -/
structure CallAt (w : World) (b o i : Nat) (d h x : Int) (m : Bool) : Prop where
  c0 : w.cell? ⟨b, o + i * 4, none⟩ = some (.int .i64 d)
  c1 : w.cell? ⟨b, o + i * 4 + 1, none⟩ = some (.int .i64 h)
  c2 : w.cell? ⟨b, o + i * 4 + 2, none⟩ = some (.int .i64 x)
  c3 : w.cell? ⟨b, o + i * 4 + 3, none⟩ = some (.bool m)
  h0 : -9223372036854775808 ≤ h
  h1 : h ≤ 9223372036854775807
  x0 : -9223372036854775808 ≤ x
  x1 : x ≤ 9223372036854775807

/-- A row of calls that came in. -/
def IsCalls (w : World) (a : Option Addr) (len cap : Nat) : Prop :=
  len ≤ cap ∧ cap ≤ 9223372036854775807 ∧ (0 < len → ∃ b o, a = some ⟨b, o, none⟩ ∧ b < w.heap.size ∧ ∀ i, i < len → ∃ d h x m, CallAt w b o i d h x m)

theorem CallAt.keep {w w' : World} {b o i : Nat} {d h x : Int} {m : Bool} (H : CallAt w b o i d h x m) (hk : Keep [] w w') : CallAt w' b o i d h x m := by
  have hb : b < w.heap.size := World.block_lt_of_cell? w _ H.c0
  exact ⟨(hk.cell (p := ⟨b, _, none⟩) hb (by simp)).trans H.c0, (hk.cell (p := ⟨b, _, none⟩) hb (by simp)).trans H.c1, (hk.cell (p := ⟨b, _, none⟩) hb (by simp)).trans H.c2, (hk.cell (p := ⟨b, _, none⟩) hb (by simp)).trans H.c3, H.h0, H.h1, H.x0, H.x1⟩

section
variable {H : Type} {enc : TypeId × Value → H} {w : World} {base : Nat} {held : Bool}

/-- What a slice's elements are, cell by cell. -/
theorem open_row {fuel : Nat} {t e : TypeId} {v : Value} {x : DataW H × List MemPlace} (hu : Try.prog.underlying t = some (.slice e)) (m : Nat) (hm : Try.prog.cellsOf e = m) (m0 : 0 < m) (h : DataW.trod enc Try.prog w base (fun _ => true) held fuel t [v] = some x) :
    ∃ (a : Option Addr) (len cap : Nat), v = .slice a len cap ∧ len ≤ cap ∧ cap ≤ 9223372036854775807 ∧ (0 < len → ∃ b o, a = some ⟨b, o, none⟩ ∧ b < w.heap.size ∧ ∀ i, i < len → ∃ n cs y, (∀ j, j < m → w.cell? ⟨b, o + i * m + j, none⟩ = cs[j]?) ∧ cs.length = m ∧ DataW.trod enc Try.prog w base (fun _ => true) held n e cs = some y) := by
  rcases open_slice hu h with ⟨hcs, _⟩ | ⟨x, l, c, mm, n, D, Pl, hcs, _, hl, hmx, hmm, _, hi⟩
  · simp at hcs
    subst hcs
    exact ⟨none, 0, 0, rfl, by omega, by omega, fun h => absurd h (by omega)⟩
  · simp at hcs
    subst hcs
    unfold maxLen at hmx
    simp at hmm
    subst hmm
    refine ⟨some x, l, _, rfl, hl, by omega, fun hp => ?_⟩
    have key : ∀ i, i < l → ∃ cs', (∀ j, j < m → w.cell? (x.add (i * m + j)) = cs'[j]?) ∧ cs'.length = m ∧ DataW.trod enc Try.prog w base (fun _ => true) held n e cs' = some (D i, Pl i) := by
      intro i hi'
      obtain ⟨cs', h1, h2⟩ := hi i (by omega)
      rw [hm] at h1
      obtain ⟨_, h3, h4⟩ := World.cells?_some h1
      exact ⟨cs', fun j hj => by rw [← h4 j hj, add_add'], h3, h2⟩
    obtain ⟨cs0, k1, k2, _⟩ := key 0 hp
    have hc0 : ∃ v, w.cell? (x.add (0 * m + 0)) = some v := by
      rw [k1 0 (by omega)]
      exact ⟨cs0[0], List.getElem?_eq_getElem (by omega)⟩
    obtain ⟨v, hv⟩ := hc0
    have hx0 : x.add (0 * m + 0) = x := by simp [Addr.add]
    rw [hx0] at hv
    have hsp := spot_none hv
    obtain ⟨b, o, sp⟩ := x
    dsimp only at hsp
    subst hsp
    refine ⟨b, o, rfl, World.block_lt_of_cell? w _ hv, fun i hi' => ?_⟩
    obtain ⟨cs', h1, h2, h3⟩ := key i hi'
    refine ⟨n, cs', _, fun j hj => ?_, h2, h3⟩
    rw [← h1 j hj, addr_add0]
    rw [Nat.add_assoc]

theorem cellsInt : Try.prog.cellsOf 3 = 1 := by kernel_rfl

theorem open_num {fuel : Nat} {v : Value} {x : DataW H × List MemPlace} (h : DataW.trod enc Try.prog w base (fun _ => true) held fuel 3 [v] = some x) : ∃ d : Int, v = .int .i64 d ∧ -9223372036854775808 ≤ d ∧ d ≤ 9223372036854775807 := by
  obtain ⟨d, e0, _, wd⟩ := DataW.trod_int Try.underlying3 h
  simp only [List.cons.injEq, and_true] at e0
  exact ⟨d, e0, wf_i64 wd⟩

theorem open_nums {fuel : Nat} {v : Value} {x : DataW H × List MemPlace} (h : DataW.trod enc Try.prog w base (fun _ => true) held fuel 30 [v] = some x) : ∃ (a : Option Addr) (len cap : Nat) (f : Nat → Int), v = .slice a len cap ∧ Ints w a len cap f := by
  have hnil : ∀ a : Option Addr, ∀ len cap : Nat, v = .slice a len cap → a = none → len = 0 ∧ cap = 0 := by
    intro a len cap hv ha
    subst hv ha
    rcases open_slice Try.underlying30 h with ⟨hcs, _⟩ | ⟨x, l, c, mm, n, D, Pl, hcs, _⟩
    · simp at hcs
      exact hcs
    · simp at hcs
  obtain ⟨a, len, cap, rfl, h1, h2, h3⟩ := open_row Try.underlying30 1 cellsInt (by omega) h
  by_cases h0 : 0 < len
  · obtain ⟨b, o, rfl, hb, hi⟩ := h3 h0
    have key : ∀ i, ∃ d : Int, i < len → w.cell? ⟨b, o + i, none⟩ = some (.int .i64 d) := by
      intro i
      by_cases hl : i < len
      · obtain ⟨n, cs, y, k1, k2, k3⟩ := hi i hl
        match cs, k2 with
        | [c], _ =>
          obtain ⟨d, rfl, _⟩ := open_num k3
          refine ⟨d, fun _ => ?_⟩
          have := k1 0 (by omega)
          simpa using this
      · exact ⟨0, fun h => absurd h hl⟩
    obtain ⟨f, hf⟩ := Classical.axiomOfChoice key
    exact ⟨_, len, cap, f, rfl, h1, hnil _ len cap rfl, h2, fun _ => ⟨b, o, rfl, hb, fun j hj => hf j hj⟩⟩
  · exact ⟨a, len, cap, fun _ => 0, rfl, h1, hnil a len cap rfl, h2, fun h => absurd h h0⟩

theorem open_intl {fuel : Nat} {v : Value} {x : DataW H × List MemPlace} (h : DataW.trod enc Try.prog w base (fun _ => true) held fuel 30 [v] = some x) : ∃ (A : Option Addr) (c : Nat) (l : List Int), v = .slice A l.length c ∧ IntL w A c l := by
  obtain ⟨A, len, cap, f, rfl, hI⟩ := open_nums h
  refine ⟨A, cap, (List.range len).map f, by rw [List.length_map, List.length_range], ?_⟩
  show Ints w A ((List.range len).map f).length cap _
  rw [List.length_map, List.length_range]
  exact hI.congr (fun j hj => (getD_range f 0 len j hj).symm)

theorem open_ilist {v : Value} {d : DataW H} {p : List MemPlace} (h : DataW.Trod enc Try.prog w base (fun _ => true) held 30 v d p) (hv : v.cells = #[v]) : ∃ (A : Option Addr) (c : Nat) (l : List Int), v = .slice A l.length c ∧ IntL w A c l := by
  obtain ⟨fuel, hf⟩ := h
  rw [hv] at hf
  exact open_intl hf

theorem cellsBool : Try.prog.cellsOf 4 = 1 := by kernel_rfl

theorem fields13 : ∃ fs : Array Field, Try.prog.underlying 32 = some (.struct fs) ∧ (fs.map (fun f => (f.type, f.offset))) = #[(3, 0), (3, 1), (3, 2), (4, 3)] :=
  ⟨_, Try.underlying32, by kernel_rfl⟩

theorem cells13 : Try.prog.cellsOf 32 = 4 := by kernel_rfl

theorem open_call13 {fuel : Nat} {cs : List Value} {x : DataW H × List MemPlace} {b o i : Nat} (hc : ∀ j, j < 4 → w.cell? ⟨b, o + i * 4 + j, none⟩ = cs[j]?) (hl : cs.length = 4)
    (h : DataW.trod enc Try.prog w base (fun _ => true) held fuel 32 cs = some x) : ∃ d h x m, CallAt w b o i d h x m := by
  obtain ⟨fs, hs, hfs⟩ := fields13
  obtain ⟨xs, n, _, _, _, hlen, hg⟩ := DataW.trod_struct hs h
  match cs, hl with
  | [v0, v1, v2, v3], _ =>
    have get : ∀ (j : Nat) (t : TypeId) (o : Nat), (fs.map (fun f => (f.type, f.offset)))[j]? = some (t, o) → ∃ y, DataW.trod enc Try.prog w base (fun _ => true) held n t (([v0, v1, v2, v3].drop o).take (Try.prog.cellsOf t)) = some y := by
      intro j t o ht
      rw [Array.getElem?_map] at ht
      obtain ⟨f, hfj, he⟩ := Option.map_eq_some_iff.1 ht
      injection he with e1 e2
      subst e1 e2
      have h1 := hg j f hfj
      cases hx : xs[j]? with
      | none =>
        have hj2 := (Array.getElem?_eq_some_iff.1 hfj).1
        rw [List.getElem?_eq_none_iff] at hx
        omega
      | some y => exact ⟨y, by simpa using h1.trans hx⟩
    rw [hfs] at get
    obtain ⟨y0, g0⟩ := get 0 _ _ rfl
    obtain ⟨y1, g1⟩ := get 1 _ _ rfl
    obtain ⟨y2, g2⟩ := get 2 _ _ rfl
    obtain ⟨y3, g3⟩ := get 3 _ _ rfl
    rw [cellsInt] at g0 g1 g2
    rw [cellsBool] at g3
    obtain ⟨d, rfl, _⟩ := open_num (v := v0) (by simpa using g0)
    obtain ⟨hn, rfl, hh⟩ := open_num (v := v1) (by simpa using g1)
    obtain ⟨xo, rfl, hx⟩ := open_num (v := v2) (by simpa using g2)
    obtain ⟨t, e1, _⟩ := DataW.trod_bool Try.underlying4 (by simpa using g3)
    simp only [List.cons.injEq, and_true] at e1
    subst e1
    exact ⟨d, hn, xo, t, (hc 0 (by omega)).trans rfl, (hc 1 (by omega)).trans rfl, (hc 2 (by omega)).trans rfl, (hc 3 (by omega)).trans rfl, hh.1, hh.2, hx.1, hx.2⟩

theorem open_calls {a : Option Addr} {len cap : Nat} {d : DataW H} {p : List MemPlace} (h : DataW.Trod enc Try.prog w base (fun _ => true) held 22 (.slice a len cap) d p) : IsCalls w a len cap := by
  obtain ⟨fuel, hf⟩ := h
  obtain ⟨a', len', cap', he, h1, h2, h3⟩ := open_row Try.underlying22 4 cells13 (by omega) hf
  injection he with e1 e2 e3
  subst e1 e2 e3
  refine ⟨h1, h2, fun h0 => ?_⟩
  obtain ⟨b, o, e, hb, hi⟩ := h3 h0
  refine ⟨b, o, e, hb, fun i hil => ?_⟩
  obtain ⟨n, cs, y, k1, k2, k3⟩ := hi i hil
  exact open_call13 k1 k2 k3
end
end Go.Proofs.Ytejepiobdkbgpaa
