/-
  Rows of scullionlaw7.Call that came in: what a walk is told of them. No conditions.
-/
import Derived.Test.YtfihaaciaobolaaArg7
namespace Go.Proofs.Ytfihaaciaobolaa
open Go.RowKit Go.Flo Go.ChangeShapes Go.WideShapes Go.Deep
set_option maxRecDepth 100000

/-- A call that came in stands at place i of a row. -/
structure CallAt (w : World) (b o i : Nat) (d n : Int) (A : Option Addr) (len cap : Nat) (l : Nat → Int) : Prop where
  c0 : w.cell? ⟨b, o + i * 3, none⟩ = some (.int .i64 d)
  c1 : w.cell? ⟨b, o + i * 3 + 1, none⟩ = some (.int .i64 n)
  c2 : w.cell? ⟨b, o + i * 3 + 2, none⟩ = some (.slice A len cap)
  n0 : -9223372036854775808 ≤ n
  n1 : n ≤ 9223372036854775807
  l : Ints w A len cap l

/-- A row of calls that came in. -/
def IsCalls (w : World) (a : Option Addr) (len cap : Nat) : Prop :=
  len ≤ cap ∧ cap ≤ 9223372036854775807 ∧ (0 < len → ∃ b o, a = some ⟨b, o, none⟩ ∧ b < w.heap.size ∧ ∀ i, i < len → ∃ d n A n' c' l, CallAt w b o i d n A n' c' l)

theorem CallAt.keep {w w' : World} {b o i : Nat} {d n : Int} {A : Option Addr} {len cap : Nat} {l : Nat → Int} (h : CallAt w b o i d n A len cap l) (hk : Keep [] w w') : CallAt w' b o i d n A len cap l := by
  have hb : b < w.heap.size := World.block_lt_of_cell? w _ h.c0
  exact ⟨(hk.cell (p := ⟨b, _, none⟩) hb (by simp)).trans h.c0, (hk.cell (p := ⟨b, _, none⟩) hb (by simp)).trans h.c1, (hk.cell (p := ⟨b, _, none⟩) hb (by simp)).trans h.c2, h.n0, h.n1, h.l.keep hk⟩

section
variable {H : Type} {enc : TypeId × Value → H} {w : World} {base : Nat} {held : Bool}

theorem fields7 : ∃ fs : Array Field, Try.prog.underlying 45 = some (.struct fs) ∧ (fs.map (fun f => (f.type, f.offset))) = #[(3, 0), (3, 1), (43, 2)] :=
  ⟨_, Try.underlying45, by kernel_rfl⟩

theorem cells7 : Try.prog.cellsOf 45 = 3 := by kernel_rfl

theorem open_call7 {fuel : Nat} {cs : List Value} {x : DataW H × List MemPlace} {b o i : Nat} (hc : ∀ j, j < 3 → w.cell? ⟨b, o + i * 3 + j, none⟩ = cs[j]?) (hl : cs.length = 3)
    (h : DataW.trod enc Try.prog w base (fun _ => true) held fuel 45 cs = some x) : ∃ d n A n' c' l, CallAt w b o i d n A n' c' l := by
  obtain ⟨fs, hs, hfs⟩ := fields7
  obtain ⟨xs, n, _, _, _, hlen, hg⟩ := DataW.trod_struct hs h
  match cs, hl with
  | [v0, v1, v2], _ =>
    have get : ∀ (j : Nat) (t : TypeId) (o : Nat), (fs.map (fun f => (f.type, f.offset)))[j]? = some (t, o) → ∃ y, DataW.trod enc Try.prog w base (fun _ => true) held n t (([v0, v1, v2].drop o).take (Try.prog.cellsOf t)) = some y := by
      intro j t o ht
      rw [Array.getElem?_map] at ht
      obtain ⟨f, hfj, he⟩ := Option.map_eq_some_iff.1 ht
      injection he with e1 e2
      subst e1 e2
      have h1 := hg j f hfj
      cases hx : xs[j]? with
      | none =>
        have hj2 := (Array.getElem?_eq_some_iff.1 hfj).1
        rw [List.getElem?_eq_none_iff] at hx
        omega
      | some y => exact ⟨y, by simpa using h1.trans hx⟩
    rw [hfs] at get
    obtain ⟨y0, g0⟩ := get 0 _ _ rfl
    obtain ⟨y1, g1⟩ := get 1 _ _ rfl
    obtain ⟨y2, g2⟩ := get 2 _ _ rfl
    rw [cellsInt] at g0 g1
    rw [cellsInts] at g2
    obtain ⟨d, rfl, _⟩ := open_num (v := v0) (by simpa using g0)
    obtain ⟨m, rfl, hm⟩ := open_num (v := v1) (by simpa using g1)
    obtain ⟨A, nn, cap, l, rfl, hI⟩ := open_nums (v := v2) (by simpa using g2)
    exact ⟨d, m, A, nn, cap, l, (hc 0 (by omega)).trans rfl, (hc 1 (by omega)).trans rfl, (hc 2 (by omega)).trans rfl, hm.1, hm.2, hI⟩

theorem open_calls {a : Option Addr} {len cap : Nat} {d : DataW H} {p : List MemPlace} (h : DataW.Trod enc Try.prog w base (fun _ => true) held 24 (.slice a len cap) d p) : IsCalls w a len cap := by
  obtain ⟨fuel, hf⟩ := h
  obtain ⟨a', len', cap', he, h1, h2, h3⟩ := open_row Try.underlying24 3 cells7 (by omega) hf
  injection he with e1 e2 e3
  subst e1 e2 e3
  refine ⟨h1, h2, fun h0 => ?_⟩
  obtain ⟨b, o, e, hb, hi⟩ := h3 h0
  refine ⟨b, o, e, hb, fun i hil => ?_⟩
  obtain ⟨n, cs, y, k1, k2, k3⟩ := hi i hil
  exact open_call7 k1 k2 k3
end
end Go.Proofs.Ytfihaaciaobolaa
