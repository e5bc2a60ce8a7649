/-
  Arguments that are rows of scullionlaw5.Call: what a walk is told of them. No conditions.
-/
import Derived.Test.YthfcfkdbfjibgaaMap6
import Derived.ProofKit
import Derived.OpenShut
import Derived.Deep.Slices
import Derived.Deep.Fields
import Derived.ChangeSame
namespace Go.Proofs.Ythfcfkdbfjibgaa
open Go.RowKit Go.Flo Go.ChangeShapes Go.WideShapes Go.Deep
set_option maxRecDepth 100000

/-- What was there is kept by a call that turns only what was made since. -/
theorem _root_.Go.Flo.Keep.since {own : List Nat} {w w' w'' : World} (h : Keep [] w w') (k : Keep own w' w'') (ho : ∀ k ∈ own, w.heap.size ≤ k) : Keep [] w w'' :=
  ⟨k.os.trans h.os, k.tape.trans h.tape, k.output.trans h.output, Nat.le_trans h.size k.size, fun i hi hm => (k.block i (Nat.lt_of_lt_of_le hi h.size) (fun hx => by have := ho i hx; omega)).trans (h.block i hi hm)⟩

/-- A call that came in stands at place i of a row. -/
structure BitAt (w : World) (b o i : Nat) (x : Int) (y : Bool) : Prop where
  c0 : w.cell? ⟨b, o + i * 2, none⟩ = some (.int .i64 x)
  c1 : w.cell? ⟨b, o + i * 2 + 1, none⟩ = some (.bool y)
  x0 : -9223372036854775808 ≤ x
  x1 : x ≤ 9223372036854775807

/-- A row of calls that came in. -/
def IsBits (w : World) (a : Option Addr) (len cap : Nat) : Prop :=
  len ≤ cap ∧ cap ≤ 9223372036854775807 ∧ (0 < len → ∃ b o, a = some ⟨b, o, none⟩ ∧ b < w.heap.size ∧ ∀ i, i < len → ∃ x y, BitAt w b o i x y)

theorem BitAt.keep {w w' : World} {b o i : Nat} {x : Int} {y : Bool} (h : BitAt w b o i x y) (hk : Keep [] w w') : BitAt w' b o i x y := by
  have hb : b < w.heap.size := World.block_lt_of_cell? w _ h.c0
  exact { h with c0 := (hk.cell (p := ⟨b, _, none⟩) hb (by simp)).trans h.c0, c1 := (hk.cell (p := ⟨b, _, none⟩) hb (by simp)).trans h.c1 }

theorem addr_twice (a : Addr) (i j : Nat) : (a.add i).add j = a.add (i + j) := by
  unfold Addr.add
  by_cases hi : i = 0 <;> by_cases hj : j = 0 <;> simp [hi, hj, Nat.add_assoc]

section
variable {H : Type} {enc : TypeId × Value → H} {w : World} {base : Nat} {held : Bool}

theorem fieldsB : ∃ fs : Array Field, Try.prog.underlying 29 = some (.struct fs) ∧ oneCellFields Try.prog fs = true ∧ (fs[0]?.map (·.type)) = some 3 ∧ (fs[1]?.map (·.type)) = some 4 :=
  ⟨_, Try.underlying29, by kernel_rfl, by kernel_rfl, by kernel_rfl⟩

theorem cellsB : Try.prog.cellsOf 29 = 2 := by kernel_rfl

theorem open_bit {fuel : Nat} {cs : List Value} {x : DataW H × List MemPlace} {b o i : Nat} (hc : ∀ j, j < 2 → w.cell? ⟨b, o + i * 2 + j, none⟩ = cs[j]?) (hl : cs.length = 2)
    (h : DataW.trod enc Try.prog w base (fun _ => true) held fuel 29 cs = some x) : ∃ x y, BitAt w b o i x y := by
  obtain ⟨fs, hs, hone, f0, f1⟩ := fieldsB
  obtain ⟨xs, n, _, _, _, _, hf⟩ := DataW.trod_struct hs h
  match cs, hl with
  | [v0, v1], _ =>
    have get : ∀ (j : Nat) (t : TypeId), (fs[j]?.map (·.type)) = some t → ∀ v, [v0, v1][j]? = some v → ∃ y, DataW.trod enc Try.prog w base (fun _ => true) held n t [v] = some y := by
      intro j t ht v hv
      obtain ⟨f, hfj, rfl⟩ := Option.map_eq_some_iff.1 ht
      obtain ⟨ho, hk⟩ := hone_of hone j f hfj
      have h1 := hf j f hfj
      rw [ho, hk] at h1
      have e : ([v0, v1].drop j).take 1 = [v] := by
        have hj := (List.getElem?_eq_some_iff.1 hv).1
        rw [List.drop_eq_getElem_cons hj]
        simp only [List.take_succ_cons, List.take_zero]
        rw [(List.getElem?_eq_some_iff.1 hv).2]
      rw [e] at h1
      cases hx : xs[j]? with
      | none =>
        have : xs.length = fs.size := by assumption
        have hj2 := (Array.getElem?_eq_some_iff.1 hfj).1
        rw [List.getElem?_eq_none_iff] at hx
        omega
      | some y => exact ⟨y, h1.trans hx⟩
    obtain ⟨y0, h0⟩ := get 0 3 f0 v0 rfl
    obtain ⟨y1, h1⟩ := get 1 4 f1 v1 rfl
    obtain ⟨d, e0, _, wd⟩ := DataW.trod_int Try.underlying3 h0
    obtain ⟨t, e1, _⟩ := DataW.trod_bool Try.underlying4 h1
    simp only [List.cons.injEq, and_true] at e0 e1
    subst e0 e1
    have a0 := bounds_i64 wd
    exact ⟨d, t, (hc 0 (by omega)).trans rfl, (hc 1 (by omega)).trans rfl, by omega, by omega⟩

theorem open_bits {a : Option Addr} {len cap : Nat} {d : DataW H} {p : List MemPlace} (h : DataW.Trod enc Try.prog w base (fun _ => true) held 23 (.slice a len cap) d p) : IsBits w a len cap := by
  obtain ⟨fuel, hf⟩ := h
  rcases open_slice Try.underlying23 hf with ⟨hcs, _⟩ | ⟨x, l, c, m, n, D, Pl, hcs, _, hl, hm, hmm, _, hi⟩
  · simp [Value.cells] at hcs
    obtain ⟨rfl, rfl, rfl⟩ := hcs
    exact ⟨by omega, by omega, fun h => absurd h (by omega)⟩
  · simp [Value.cells] at hcs
    obtain ⟨rfl, rfl, rfl⟩ := hcs
    unfold maxLen at hm
    simp at hmm
    subst hmm
    refine ⟨hl, by omega, fun hp => ?_⟩
    have key : ∀ i, i < len → ∃ cs', (∀ j, j < 2 → w.cell? (x.add (i * 2 + j)) = cs'[j]?) ∧ cs'.length = 2 ∧ DataW.trod enc Try.prog w base (fun _ => true) held n 29 cs' = some (D i, Pl i) := by
      intro i hi'
      obtain ⟨cs', h1, h2⟩ := hi i (by omega)
      rw [cellsB] at h1
      obtain ⟨_, h3, h4⟩ := World.cells?_some h1
      exact ⟨cs', fun j hj => by rw [← h4 j hj, addr_twice], h3, h2⟩
    obtain ⟨cs0, k1, k2, _⟩ := key 0 hp
    have hc0 : ∃ v, w.cell? (x.add (0 * 2 + 0)) = some v := by
      rw [k1 0 (by omega)]
      exact ⟨cs0[0], List.getElem?_eq_getElem (by omega)⟩
    obtain ⟨v, hv⟩ := hc0
    have hx0 : x.add (0 * 2 + 0) = x := by simp [Addr.add]
    rw [hx0] at hv
    have hsp := spotN hv
    obtain ⟨b, o, sp⟩ := x
    dsimp only at hsp
    subst hsp
    refine ⟨b, o, rfl, World.block_lt_of_cell? w _ hv, fun i hi' => ?_⟩
    obtain ⟨cs', h1, h2, h3⟩ := key i hi'
    refine open_bit (fun j hj => ?_) h2 h3
    rw [← h1 j hj, addr_add0, Nat.add_assoc]

end

end Go.Proofs.Ythfcfkdbfjibgaa
