/-
  Blocks that are known whole, rows, and worlds in which only some blocks have turned: plain facts, no Go text in sight. No conditions.
-/
import Derived.Test.YtigclopkoolocaaDoorDraw
import Derived.Below
import Derived.Laws.OwnMore
import Derived.Laws.CopyOwn
import Derived.Laws.MakeOwn
import Derived.Maps.AppendAt
import Derived.Deep.Draws
import Derived.Lib.Hide
namespace Go.Flo
open Go.RowKit

/-- The world w' is as w was, but for the blocks in own and new ones. -/
structure Keep (own : List Nat) (w w' : World) : Prop where
  os : w'.os = w.os
  tape : w'.tape = w.tape
  output : w'.output = w.output
  size : w.heap.size ≤ w'.heap.size
  block : ∀ k, k < w.heap.size → k ∉ own → w'.heap[k]? = w.heap[k]?

theorem Keep.refl (own : List Nat) (w : World) : Keep own w w := ⟨rfl, rfl, rfl, Nat.le_refl _, fun _ _ _ => rfl⟩
theorem Keep.trans {own : List Nat} {a b c : World} (h : Keep own a b) (k : Keep own b c) : Keep own a c :=
  ⟨k.os.trans h.os, k.tape.trans h.tape, k.output.trans h.output, Nat.le_trans h.size k.size, fun i hi ho => (k.block i (Nat.lt_of_lt_of_le hi h.size) ho).trans (h.block i hi ho)⟩
theorem Keep.mono {own own' : List Nat} {w w' : World} (h : Keep own w w') (ho : ∀ k, k < w.heap.size → k ∈ own → k ∈ own') : Keep own' w w' :=
  ⟨h.os, h.tape, h.output, h.size, fun k hk hn => h.block k hk (fun hm => hn (ho k hk hm))⟩
theorem Keep.one {own : List Nat} {g : Nat} {w w' : World} (h : Keep [g] w w') (hg : g ∈ own) : Keep own w w' := h.mono (fun k _ hm => by rw [List.mem_singleton] at hm; rw [hm]; exact hg)
theorem Keep.of_nil {own : List Nat} {w w' : World} (h : Keep [] w w') : Keep own w w' := h.mono (fun _ _ hm => by cases hm)
theorem Keep.below {own : List Nat} {B : Nat} {w w' : World} (h : Keep own w w') (hB : B ≤ w.heap.size) (ho : ∀ k ∈ own, B ≤ k) : Below B w w' :=
  ⟨h.os, h.tape, h.output, h.size, fun k hk => h.block k (by omega) (fun hm => by have := ho k hm; omega)⟩
theorem Keep.dr {own : List Nat} {w w' : World} (h : Dr w w') : Keep own w w' := by
  obtain ⟨n, rfl⟩ := h
  exact ⟨rfl, rfl, rfl, Nat.le_refl _, fun _ _ _ => rfl⟩
theorem Keep.drew {own : List Nat} (w : World) : Keep own w w.drew := ⟨rfl, rfl, rfl, Nat.le_refl _, fun _ _ _ => rfl⟩
theorem Keep.setCell {own : List Nat} (w : World) (p : Addr) (hp : p.block ∈ own) (u : Value) : Keep own w (w.setCell p u) :=
  ⟨rfl, rfl, rfl, by simp [World.setCell], fun k _ hn => Below.heap_setCell _ _ _ _ (fun e => hn (e ▸ hp))⟩
theorem Keep.alloc {own : List Nat} (w : World) (o : Obj) : Keep own w (w.alloc o) :=
  ⟨rfl, rfl, rfl, by simp, fun k hk _ => Below.heap_alloc _ _ _ hk⟩
theorem Keep.grown {own : List Nat} {w w' : World} {row : Option Nat} (hg : w.grownBy w' row) (hr : ∀ k, k < w.heap.size → row = some k → k ∈ own) : Keep own w w' :=
  ⟨hg.os, hg.tape, hg.output, hg.size, fun k hk hn => hg.block k hk (fun e => hn (hr k hk e.symm))⟩
theorem Keep.setRow {own : List Nat} (w : World) (g : Nat) (hp : g ∈ own) (cs : Array Value) : Keep own w (w.setRow g cs) :=
  ⟨rfl, rfl, rfl, by simp [World.setRow], fun k _ hn => setRow_other w g k cs (fun e => hn (e ▸ hp))⟩
theorem Keep.cell {own : List Nat} {w w' : World} (h : Keep own w w') {p : Addr} (hp : p.block < w.heap.size) (hn : p.block ∉ own) : w'.cell? p = w.cell? p := World.cell?_of_block (w := w) (h.block p.block hp hn)

/-- A block that is known whole. -/
def Blk (w : World) (g : Nat) (t : TypeId) (cs : Array Value) : Prop := w.heap[g]? = some (.cells cs t (0, 0))

section
variable {w w' : World} {g : Nat} {t : TypeId} {cs : Array Value}
theorem Blk.lt (h : Blk w g t cs) : g < w.heap.size := by
  rcases Nat.lt_or_ge g w.heap.size with hlt | hge
  · exact hlt
  · unfold Blk at h; rw [Array.getElem?_eq_none hge] at h; cases h
theorem Blk.cell (h : Blk w g t cs) (i : Nat) : w.cell? ⟨g, i, none⟩ = cs[i]? := cell_of_row w g i cs t (0, 0) h
theorem Blk.frozen (h : Blk w g t cs) (i : Nat) : w.frozen? ⟨g, i, none⟩ = false := by
  unfold Blk at h
  simp [World.frozen?, h]
theorem Blk.keep {own : List Nat} (h : Blk w g t cs) (hk : Keep own w w') (hn : g ∉ own) : Blk w' g t cs := (hk.block g h.lt hn).trans h
theorem Blk.dr (h : Blk w g t cs) (hk : Dr w w') : Blk w' g t cs := by obtain ⟨n, rfl⟩ := hk; exact h
theorem Blk.new (w : World) (t : TypeId) (cs : Array Value) : Blk (w.alloc (.cells cs t)) w.heap.size t cs := heap_alloc_new w _
theorem Blk.set_ (h : Blk w g t cs) (i : Nat) (u : Value) : Blk (w.setCell ⟨g, i, none⟩ u) g t (cs.setIfInBounds i u) := by
  unfold Blk at h ⊢
  simp [World.setCell, Array.getElem?_modify, h]
theorem Blk.far (h : Blk w g t cs) {p : Addr} (hp : g ≠ p.block) (u : Value) : Blk (w.setCell p u) g t cs := (Below.heap_setCell w p u g hp).trans h
end

/-- A row of one-cell values: n of them, in a block of its own. -/
def Row (w : World) (t : TypeId) (g n cap : Nat) (f : Nat → Value) : Prop :=
  ∃ c : Array Value, w.heap[g]? = some (.cells c t (0, 0)) ∧ c.size = cap ∧ n ≤ cap ∧ cap ≤ maxLen ∧ ∀ i, i < n → c[i]? = some (f i)

section
variable {w w' : World} {t : TypeId} {g n cap : Nat} {f f' : Nat → Value}
theorem Row.lt (h : Row w t g n cap f) : g < w.heap.size := by
  obtain ⟨c, hc, _⟩ := h
  exact Blk.lt (cs := c) hc
theorem Row.cap_le (h : Row w t g n cap f) : n ≤ cap := by obtain ⟨c, _, _, hn, _⟩ := h; exact hn
theorem Row.cap_max (h : Row w t g n cap f) : cap ≤ maxLen := by obtain ⟨c, _, _, _, hn, _⟩ := h; exact hn
theorem Row.cell (h : Row w t g n cap f) {i : Nat} (hi : i < n) : w.cell? ⟨g, i, none⟩ = some (f i) := by
  obtain ⟨c, hc, _, _, _, hf⟩ := h
  rw [cell_of_row w g i c t (0, 0) hc, hf i hi]
theorem Row.frozen (h : Row w t g n cap f) (i : Nat) : w.frozen? ⟨g, i, none⟩ = false := by
  obtain ⟨c, hc, _⟩ := h
  exact Blk.frozen (cs := c) hc i
theorem Row.keep {own : List Nat} (h : Row w t g n cap f) (hk : Keep own w w') (hn : g ∉ own) : Row w' t g n cap f := by
  have hl := h.lt
  obtain ⟨c, hc, r⟩ := h
  exact ⟨c, (hk.block g hl hn).trans hc, r⟩
theorem Row.dr (h : Row w t g n cap f) (hk : Dr w w') : Row w' t g n cap f := by obtain ⟨m, rfl⟩ := hk; exact h
theorem Row.congr (h : Row w t g n cap f) (he : ∀ i, i < n → f i = f' i) : Row w t g n cap f' := by
  obtain ⟨c, hc, h1, h2, h3, hf⟩ := h
  exact ⟨c, hc, h1, h2, h3, fun i hi => (hf i hi).trans (by rw [he i hi])⟩
theorem Row.set_ (h : Row w t g n cap f) (i : Nat) (u : Value) : Row (w.setCell ⟨g, i, none⟩ u) t g n cap (fun k => if k = i then u else f k) := by
  obtain ⟨c, hc, h1, h2, h3, hf⟩ := h
  refine ⟨c.setIfInBounds i u, Blk.set_ (cs := c) hc i u, by simp [h1], h2, h3, fun k hk => ?_⟩
  have hkc : k < c.size := by omega
  by_cases hki : k = i
  · subst hki
    simp [hkc]
  · have := hf k hk
    simp [hki, Ne.symm hki, this]
theorem Row.far (h : Row w t g n cap f) {p : Addr} (hp : g ≠ p.block) (u : Value) : Row (w.setCell p u) t g n cap f := by
  obtain ⟨c, hc, r⟩ := h
  exact ⟨c, Blk.far (cs := c) hc hp u, r⟩
theorem Row.of_owns {base : Nat} (h : w.ownsRow base t 1 (.slice (some ⟨g, 0, none⟩) n cap) n ((List.range n).map f)) : Row w t g n cap f := by
  obtain ⟨h1, h2⟩ := h
  rcases h2 with ⟨h2, _⟩ | ⟨g', cap', cur, hv, hb, hh, hn, hm, hs, ht⟩
  · cases h2
  · injection hv with e1 e2 e3
    injection e1 with e1
    injection e1 with e1
    subst e1; subst e3
    refine ⟨cur, hh, by omega, hn, hm, fun i hi => ?_⟩
    have hx : (cur.toList.take (n * 1))[i]? = some (f i) := by rw [ht]; simp [hi]
    rw [List.getElem?_take] at hx
    simpa [hi] using hx
theorem Row.made (w : World) (t : TypeId) (z : Value) (hz : z.cells = #[z]) (n : Nat) (hn : n ≤ maxLen) : Row (w.alloc (.cells (madeCells z.cells (n * 1)) t)) t w.heap.size n n (fun _ => z) := by
  refine ⟨_, heap_alloc_new w _, by rw [size_madeCells]; omega, Nat.le_refl _, hn, fun i hi => ?_⟩
  simp [madeCells, hz, hi, Nat.mod_one]
end

/-- What a copy between two rows comes to. -/
theorem get_splice {α : Type} (L : List α) (off : Nat) (cs : List α) (h : off + cs.length ≤ L.length) (i : Nat) :
    (splice L off cs)[i]? = if off ≤ i ∧ i < off + cs.length then cs[i - off]? else L[i]? := by
  unfold splice
  by_cases h1 : i < off
  · rw [List.getElem?_append_left (by simp; omega), List.getElem?_take, if_pos h1, if_neg (by omega)]
  · rw [List.getElem?_append_right (by simp; omega)]
    have hl : (L.take off).length = off := by simp; omega
    rw [hl]
    by_cases h2 : i < off + cs.length
    · rw [List.getElem?_append_left (by omega), if_pos (by omega)]
    · rw [List.getElem?_append_right (by omega), List.getElem?_drop, if_neg (by omega)]
      congr 1
      omega

theorem Row.toOwns {w : World} {t : TypeId} {g n cap : Nat} {f : Nat → Value} (h : Row w t g n cap f) (base : Nat) (hb : base ≤ g) : w.ownsRow base t 1 (.slice (some ⟨g, 0, none⟩) n cap) n ((List.range n).map f) := by
  obtain ⟨c, hc, h1, h2, h3, hf⟩ := h
  refine ⟨by simp, .inr ⟨g, cap, c, rfl, hb, hc, h2, h3, by omega, ?_⟩⟩
  apply List.ext_getElem?
  intro i
  rw [List.getElem?_take]
  by_cases hi : i < n
  · have := hf i hi
    simp [hi]
    simpa using this
  · simp [hi]

/-- copy, from one row's place to another's, as one law for the walk. -/
theorem wpList_copy_row {P : Program} {w : World} {ops : Array Oper} {rest : List Oper} {o : Oper} {a : Act} {Q : Exit → Act → World → Prop} (hgd : o.guard = none) (d s : Operand) (dT sT : TypeId)
    (ho : o.op = .call { callee := .builtin .copy, args := #[d, s], argTypes := #[dT, sT] }) (elem : TypeId) (hu : P.underlying dT = some (.slice elem)) (hsz : (P.info? elem).map (·.size) = some 1)
    (g off k dCap : Nat) (hd : a.eval d = .slice (some ⟨g, off, none⟩) k dCap)
    (g' off' sCap : Nat) (hs : a.eval s = .slice (some ⟨g', off', none⟩) k sCap)
    (t t' : TypeId) (n n' cap cap' : Nat) (f f' : Nat → Value) (hg : Row w t g n cap f) (hg' : Row w t' g' n' cap' f') (hfit : off + k ≤ n) (hfit' : off' + k ≤ n') (h1 : ∀ i, i < n' → (f' i).oneCell' = true)
    (h : ∀ w', Row w' t g n cap (fun i => if off ≤ i ∧ i < off + k then f' (off' + (i - off)) else f i) → Keep [g] w w' → wpList P ops Q rest (a.put o.dst (goInt k)) w') :
    wpList P ops Q (o :: rest) a w := by
  obtain ⟨c, hc, e1, e2, e3, hf⟩ := hg
  have hlen : ((List.range k).map fun j => f' (off' + j)).length = k := by simp
  refine wpList_copy_own hgd d s dT sT ho elem hu hsz g off k dCap ⟨g', off', none⟩ k sCap hd hs c t hc ((List.range k).map fun j => f' (off' + j)) (by simp) ?_ (by simp; omega) ?_ ?_
  · intro j v hv
    have hj : j < k := by
      have := (List.getElem?_eq_some_iff.1 hv).1
      simpa using this
    have hv' : f' (off' + j) = v := by simpa [hj] using hv
    have hadd : (⟨g', off', none⟩ : Addr).add j = ⟨g', off' + j, none⟩ := by unfold Addr.add; split <;> simp_all
    rw [hadd, hg'.cell (by omega), hv']
  · intro v hv
    simp only [List.mem_map, List.mem_range] at hv
    obtain ⟨j, hj, rfl⟩ := hv
    exact h1 _ (by omega)
  · rw [hlen]
    refine h _ ⟨_, setRow_heap w g _ _ t _ hc, ?_, e2, e3, fun i hi => ?_⟩ (Keep.setRow w g (by simp) _)
    · simp; omega
    · have hsp := get_splice c.toList off ((List.range k).map fun j => f' (off' + j)) (by simp; omega) i
      unfold splice at hsp
      rw [hlen] at hsp
      rw [List.getElem?_toArray, hsp]
      by_cases hin : off ≤ i ∧ i < off + k
      · rw [if_pos hin]
        have : i - off < k := by omega
        simp [this, hin]
      · rw [if_neg hin]
        simp only [hin, if_false]
        have := hf i hi
        simpa using this

#print axioms wpList_copy_row
end Go.Flo
