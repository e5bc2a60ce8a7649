/-
  A map from int to int that a call makes: what is there, what stands there, how many. No conditions.
-/
import Derived.Test.YtejepiobdkbgpaaHn0
import Derived.Maps.OwnSet
import Derived.Maps.OwnOps
namespace Go.Proofs.Ytejepiobdkbgpaa
open Go.RowKit Go.Flo Go.Maps
set_option maxRecDepth 100000

theorem lawInt : Keyed Try.prog 3 := int_keyed Try.underlying3
theorem zeroInt (w : World) : (zeroValue 3).run Try.prog w = .ok (.int .i64 0) w := by kernel_rfl

/-- A map in block b, of at most n entries: the keys h, what stands at each (0 elsewhere), how many. -/
def IMap (w : World) (b n : Nat) (h : Int → Bool) (c : Int → Int) (sz : Nat) : Prop :=
  ∃ D : DataW Unit, w.ownsMap Try.prog 3 (plainElem Try.prog 3) b n D ∧ (∀ k, Maps.has D (.int .i64 k) = h k) ∧ (∀ k, D.atKey (.int .i64 k) (.lit (.int .i64 0)) = .lit (.int .i64 (c k))) ∧ Maps.size D = sz

section
variable {w w' : World} {b n : Nat} {h : Int → Bool} {c : Int → Int} {sz : Nat}
theorem IMap.made (w : World) : IMap (w.alloc (.map #[] 0)) w.heap.size 0 (fun _ => false) (fun _ => 0) 0 :=
  ⟨.map [], World.ownsMap_made _ _ _ _, fun _ => rfl, fun _ => rfl, rfl⟩
theorem IMap.lt (hm : IMap w b n h c sz) : b < w.heap.size := by obtain ⟨D, h1, _⟩ := hm; exact h1.lt
theorem IMap.mono {n' : Nat} (hm : IMap w b n h c sz) (hn : n ≤ n') : IMap w b n' h c sz := by obtain ⟨D, h1, r⟩ := hm; exact ⟨D, h1.mono hn, r⟩
theorem IMap.keep {own : List Nat} (hm : IMap w b n h c sz) (hk : Keep own w w') (ho : b ∉ own) : IMap w' b n h c sz := by
  have hl := hm.lt
  obtain ⟨D, h1, r⟩ := hm
  refine ⟨D, ?_, r⟩
  obtain ⟨es, clock, hb, q⟩ := h1
  exact ⟨es, clock, (hk.block b hl ho).trans hb, q⟩
theorem IMap.congr {h' : Int → Bool} {c' : Int → Int} {sz' : Nat} (hm : IMap w b n h c sz) (e1 : ∀ k, h k = h' k) (e2 : ∀ k, c k = c' k) (e3 : sz = sz') : IMap w b n h' c' sz' := by
  obtain ⟨D, h1, h2, h3, h4⟩ := hm
  exact ⟨D, h1, fun k => (h2 k).trans (e1 k), fun k => by rw [h3 k, e2 k], h4.trans e3⟩
end

def putH (h : Int → Bool) (k : Int) (x : Int) : Bool := decide (x = k) || h x
/-- How many there are behind a put. -/
def putZ (h : Int → Bool) (k : Int) (sz : Nat) : Nat := if h k then sz else sz + 1
def putC (c : Int → Int) (k v : Int) (x : Int) : Int := if x = k then v else c x

/-- m[k] = v -/
theorem wpList_imap_put {w : World} {ops : Array Oper} {rest : List Oper} {o : Oper} {a : Act} {Q : Exit → Act → World → Prop}
    (hg : o.guard = none) (m x v : Operand) (hop : o.op = Op.mapUpdate 46 m x v) (b n : Nat) (h : Int → Bool) (c : Int → Int) (sz : Nat)
    (hm : a.eval m = .map (some b)) (hown : IMap w b n h c sz) (hn : n < 1000000) (k y : Int) (hx : a.eval x = .int .i64 k) (hv : a.eval v = .int .i64 y) (hk : (Lit.int .i64 k).wf = true) (hy : (Lit.int .i64 y).wf = true)
    (hK : ∀ w', IMap w' b (n + 1) (putH h k) (putC c k y) (putZ h k sz) → Keep [b] w w' → wpList Try.prog ops Q rest (a.put o.dst undef) w') :
    wpList Try.prog ops Q (o :: rest) a w := by
  obtain ⟨D, h1, h2, h3, h4⟩ := hown
  refine wpList_mapUpdate_own w hg m x v 46 hop 3 3 lawInt Try.underlying46 _ b n D hm h1 (by unfold maxLen; omega) _ _ _ hx hv (keyOf_int_mk Try.underlying3 hk) _ [] (plainElem_int Try.underlying3 hy) ?_
  intro w' hown' hgr
  refine hK w' ⟨_, hown', fun j => ?_, fun j => ?_, ?_⟩ (Keep.grown hgr (fun k _ e => by injection e with e; simp [e]))
  · unfold putH
    by_cases hj : j = k
    · subst hj
      rw [Maps.has_put_same h1.isMap (k := .int .i64 j) trivial]
      simp
    · rw [Maps.has_put_other (by simpa using hj), h2 j]
      simp [hj]
  · unfold putC
    by_cases hj : j = k
    · subst hj
      rw [Maps.atKey_put_same h1.isMap (k := .int .i64 j) trivial, if_pos rfl]
    · rw [Maps.atKey_put_other (by simpa using hj), h3 j, if_neg hj]
  · unfold putZ
    rw [Maps.size_put (h1.tidy lawInt), h2 k, h4]

/-- m[k] -/
theorem wpList_imap_look {w : World} {ops : Array Oper} {rest : List Oper} {o : Oper} {a : Act} {Q : Exit → Act → World → Prop}
    (hg : o.guard = none) (m x : Operand) (hop : o.op = Op.lookup 46 m x false) (b n : Nat) (h : Int → Bool) (c : Int → Int) (sz : Nat)
    (hm : a.eval m = .map (some b)) (hown : IMap w b n h c sz) (k : Int) (hx : a.eval x = .int .i64 k) (hk : (Lit.int .i64 k).wf = true) (v : Int) (hcv : c k = v)
    (hK : wpList Try.prog ops Q rest (a.put o.dst (.int .i64 v)) w) :
    wpList Try.prog ops Q (o :: rest) a w := by
  obtain ⟨D, h1, h2, h3, h4⟩ := hown
  refine wpList_lookup_own_int w hg m x 46 hop 3 3 .i64 lawInt Try.underlying46 Try.underlying3 (zeroInt w) b n D hm h1 _ _ hx (keyOf_int_mk Try.underlying3 hk) ?_
  intro y hy _
  rw [h3 k] at hy
  injection hy with hy
  injection hy with _ hy
  rw [← hy, hcv]
  exact hK

/-- What m[k] gives. -/
theorem imap_run {w : World} {b n : Nat} {h : Int → Bool} {c : Int → Int} {sz : Nat} (hown : IMap w b n h c sz) {k v : Int} (hk : (Lit.int .i64 k).wf = true) (hcv : c k = v) :
    (Instr.lookup 46 (.map (some b)) (.int .i64 k) false).run Try.prog w = .ok (.int .i64 v) w := by
  obtain ⟨D, h1, h2, h3, h4⟩ := hown
  obtain ⟨y, hrun, hat, hwc⟩ := h1.lookup_int lawInt Try.underlying46 Try.underlying3 (zeroInt w) (keyOf_int_mk Try.underlying3 hk)
  rw [h3 k] at hat
  injection hat with hat
  injection hat with _ hat
  rw [← hat, hcv] at hrun
  exact hrun

/-- y, ok := m[k] -/
theorem wpList_imap_ok {w : World} {ops : Array Oper} {rest : List Oper} {o : Oper} {a : Act} {Q : Exit → Act → World → Prop}
    (hg : o.guard = none) (m x : Operand) (hop : o.op = Op.lookup 46 m x true) (b n : Nat) (h : Int → Bool) (c : Int → Int) (sz : Nat)
    (hm : a.eval m = .map (some b)) (hown : IMap w b n h c sz) (k : Int) (hx : a.eval x = .int .i64 k) (hk : (Lit.int .i64 k).wf = true) (v : Int) (hcv : c k = v) (B : Bool) (hB : h k = B)
    (hK : wpList Try.prog ops Q rest (a.put o.dst (.tuple #[.int .i64 v, .bool B])) w) :
    wpList Try.prog ops Q (o :: rest) a w := by
  obtain ⟨D, h1, h2, h3, h4⟩ := hown
  refine wpList_lookup_own_ok_int w hg m x 46 hop 3 3 .i64 lawInt Try.underlying46 Try.underlying3 (zeroInt w) b n D hm h1 _ _ hx (keyOf_int_mk Try.underlying3 hk) ?_
  intro y hy _
  rw [h3 k] at hy
  injection hy with hy
  injection hy with _ hy
  rw [← hy, hcv, h2 k, hB]
  exact hK

/-- A row of one's own stands where blocks below it turn. -/
theorem ownsRow_keep {w w' : World} {base n size : Nat} {e : TypeId} {v : Value} {xs : List Value} {own : List Nat} (h : w.ownsRow base e size v n xs) (hk : Keep own w w') (ho : ∀ k ∈ own, k < base) : w'.ownsRow base e size v n xs := by
  refine ⟨h.1, ?_⟩
  rcases h.2 with h2 | ⟨g, cap, cur, e1, hg, hh, r⟩
  · exact .inl h2
  · exact .inr ⟨g, cap, cur, e1, hg, (hk.block g (Blk.lt (cs := cur) hh) (fun hm => by have := ho g hm; omega)).trans hh, r⟩
/-- What grows is the row's own block. -/
theorem grown_own {w w' : World} {B n size : Nat} {t : TypeId} {v : Value} {xs : List Value} (hown : w.ownsRow B t size v n xs) (hg : w.grownBy w' v.ownBlock) : ∃ own, Keep own w w' ∧ ∀ k ∈ own, B ≤ k := by
  rcases hown.2 with ⟨rfl, _⟩ | ⟨g, cap, cur, rfl, hgB, _⟩
  · exact ⟨[], Keep.grown hg (fun k _ e => by simp [Value.ownBlock] at e), by simp⟩
  · exact ⟨[g], Keep.grown hg (fun k _ e => by simp [Value.ownBlock] at e; simp [e]), by simp; omega⟩
end Go.Proofs.Ytejepiobdkbgpaa
