/-
  The document's twin of package graph: Trim. No conditions but what is in memory.
-/
import Derived.Test.YtigclopkoolocaaGr4
import Derived.Deep.RegionLaw
import Derived.Deep.AppendLies
namespace Go.Flo
open Go.RowKit Go.Bit

/-- A graph, told. -/
def GrPost (t : Gr) (w : World) (e : Ending) (w' : World) : Prop :=
  ∃ A0 A1 A2 c0 c1 c2, e = .returned (.agg #[.slice A0 t.nodes.length c0, .slice A1 t.roots.length c1, .slice A2 t.weaks.length c2]) ∧ GIn w' A0 A1 A2 c0 c1 c2 t ∧ Keep [] w w'

theorem Blk.set3 {w : World} {g : Nat} {t : TypeId} {z0 z1 z2 : Value} (h : Blk w g t #[z0, z1, z2]) (a b c : Value) :
    Blk (((w.setCell ⟨g, 0, none⟩ a).setCell ⟨g, 1, none⟩ b).setCell ⟨g, 2, none⟩ c) g t #[a, b, c] := ((h.set_ 0 a).set_ 1 b).set_ 2 c
theorem Keep.later {own own' : List Nat} {a b c : World} (h : Keep own a b) (k : Keep own' b c) (ho : ∀ x ∈ own', a.heap.size ≤ x ∨ x ∈ own) : Keep own a c :=
  ⟨k.os.trans h.os, k.tape.trans h.tape, k.output.trans h.output, Nat.le_trans h.size k.size, fun i hi hn => (k.block i (Nat.lt_of_lt_of_le hi h.size) (fun hm => by
    rcases ho i hm with h1 | h1
    · omega
    · exact hn h1)).trans (h.block i hi hn)⟩
theorem owns_keepO {w w' : World} {B n size : Nat} {t : TypeId} {v : Value} {xs : List Value} {own : List Nat} (hown : w.ownsRow B t size v n xs) (hk : Keep own w w') (hne : ∀ g, v.ownBlock = some g → g ∉ own) : w'.ownsRow B t size v n xs := by
  refine ⟨hown.1, ?_⟩
  rcases hown.2 with h | ⟨g, cap, cur, h1, h2, h3, h4⟩
  · exact Or.inl h
  · refine Or.inr ⟨g, cap, cur, h1, h2, ?_, h4⟩
    rw [hk.block g (by rcases Nat.lt_or_ge g w.heap.size with h | h; exact h; rw [Array.getElem?_eq_none h] at h3; cases h3) (hne g (by rw [h1]; rfl))]
    exact h3
theorem NodL.nil (w : World) : NodL w none 0 [] := ⟨by simp, by omega, by simp⟩
theorem IntL.nil (w : World) : IntL w none 0 [] := Ints.none _ _

/-- Not too many fields, roots. -/
def Slim (g : Gr) : Prop := g.roots.length ≤ 65536 ∧ g.weaks.length ≤ 65536 ∧ ∀ i, i < g.n → (g.at i).fs.length ≤ 65536
theorem Light12.slim {g : Gr} (h : Light12 g) : Slim g := ⟨by have := h.2.1; omega, by have := h.2.2.1; omega, fun i hi => by have := h.2.2.2 i hi; omega⟩

/-- A node of a row, renumbered. -/
def nodeR (g : Gr) (R : List Nat) (i : Nat) : Nod := ⟨(g.at i).K, (g.at i).fs.map (plainR R)⟩

theorem place_nil (a : Nat) : place [] (a : Int) = -1 := by simp [place]
theorem place_snoc {R : List Nat} {i : Nat} (hi : i ∉ R) (a : Nat) : place (R ++ [i]) (a : Int) = if a = i then (R.length : Int) else place R (a : Int) := by
  unfold place
  rw [Int.toNat_natCast]
  by_cases e : a = i
  · subst e
    rw [if_pos ⟨by omega, by simp⟩, if_pos rfl, List.idxOf_append]
    simp [hi]
  · rw [if_neg e]
    by_cases hm : a ∈ R
    · rw [if_pos ⟨by omega, by simp [hm]⟩, if_pos ⟨by omega, hm⟩, List.idxOf_append, if_pos hm]
    · rw [if_neg (by simp [hm, e]), if_neg (by simp [hm])]

theorem not_mem_take {R : List Nat} (h : R.Nodup) {j : Nat} (hj : j < R.length) : R.getD j 0 ∉ R.take j := by
  have e : R.take (j + 1) = R.take j ++ [R.getD j 0] := by
    rw [List.take_add_one, List.getD_eq_getElem?_getD, List.getElem?_eq_getElem hj]
    rfl
  have hn : (R.take (j + 1)).Nodup := h.sublist (List.take_sublist _ _)
  rw [e, List.nodup_append] at hn
  intro hm
  exact hn.2.2 _ hm _ (by simp) rfl

/-- Cells of nodes. -/
def nodC (n : Nat) (K : Nat → Int) (vs : Nat → Value) : List Value := (List.range n).flatMap fun i => [.int .i64 (K i), vs i]
theorem nodC_succ (n : Nat) (K : Nat → Int) (vs : Nat → Value) : nodC (n + 1) K vs = nodC n K vs ++ [.int .i64 (K n), vs n] := by
  unfold nodC
  rw [List.range_succ, List.flatMap_append]
  simp
theorem nodC_congr {n : Nat} {K K' : Nat → Int} {vs vs' : Nat → Value} (h : ∀ i, i < n → K i = K' i ∧ vs i = vs' i) : nodC n K vs = nodC n K' vs' := by
  induction n with
  | zero => rfl
  | succ n ih =>
    rw [nodC_succ, nodC_succ, ih (fun i hi => h i (by omega)), (h n (by omega)).1, (h n (by omega)).2]
theorem nodC_len (n : Nat) (K : Nat → Int) (vs : Nat → Value) : (nodC n K vs).length = n * 2 := by
  induction n with
  | zero => rfl
  | succ n ih => rw [nodC_succ, List.length_append, ih]; simp; omega
theorem nodC_get {n : Nat} (K : Nat → Int) (vs : Nat → Value) {i : Nat} (h : i < n) : (nodC n K vs)[i * 2]? = some (.int .i64 (K i)) ∧ (nodC n K vs)[i * 2 + 1]? = some (vs i) := by
  induction n with
  | zero => omega
  | succ n ih =>
    rw [nodC_succ]
    have hl := nodC_len n K vs
    rcases Nat.lt_or_ge i n with h1 | h1
    · obtain ⟨a, b⟩ := ih h1
      rw [List.getElem?_append_left (by omega), List.getElem?_append_left (by omega)]
      exact ⟨a, b⟩
    · obtain rfl : i = n := by omega
      rw [List.getElem?_append_right (by omega), List.getElem?_append_right (by omega), hl]
      simp

/-- Nodes in a row of one's own, each one's fields in a row of its own. -/
def NodOwn (w : World) (B : Nat) (tn tv : TypeId) (v : Value) (L : List Nod) : Prop :=
  ∃ vs : Nat → Value, w.ownsRow B tn 2 v L.length (nodC L.length (fun i => (L.getD i nod0).K) vs) ∧
    ∀ i, i < L.length → w.ownsRow B tv 5 (vs i) (L.getD i nod0).fs.length (rowV (L.getD i nod0).fs)

theorem NodOwn.nil (w : World) (B : Nat) (tn tv : TypeId) : NodOwn w B tn tv (.slice none 0 0) [] := ⟨fun _ => .slice none 0 0, ⟨rfl, Or.inl ⟨rfl, rfl⟩⟩, fun i hi => by simp at hi⟩

theorem owns_mono {w : World} {B B' n size : Nat} {t : TypeId} {v : Value} {xs : List Value} (h : w.ownsRow B t size v n xs) (hb : B' ≤ B) : w.ownsRow B' t size v n xs :=
  ⟨h.1, h.2.imp id (fun ⟨g, cap, cur, h1, h2, h3⟩ => ⟨g, cap, cur, h1, Nat.le_trans hb h2, h3⟩)⟩
theorem owns_apart {w : World} {B B' n n' size size' : Nat} {t t' : TypeId} {v v' : Value} {xs xs' : List Value} (ht : t ≠ t') (h : w.ownsRow B t size v n xs) (h' : w.ownsRow B' t' size' v' n' xs') : v.ownBlock = none ∨ v.ownBlock ≠ v'.ownBlock := by
  rcases h.2 with ⟨rfl, _⟩ | ⟨g, cap, cur, rfl, _, h3, _⟩
  · exact Or.inl rfl
  · refine Or.inr (fun e => ?_)
    rcases h'.2 with ⟨rfl, _⟩ | ⟨g', cap', cur', rfl, _, h3', _⟩
    · simp [Value.ownBlock] at e
    · simp [Value.ownBlock] at e
      subst e
      rw [h3] at h3'
      injection h3' with e
      injection e with _ e
      exact ht e

theorem NodOwn.snoc {w : World} {B j : Nat} {tn tv : TypeId} {v' vf : Value} {L : List Nod} {x : Nod} {vs : Nat → Value} (hj : L.length = j)
    (h : w.ownsRow B tn 2 v' (j + 1) (nodC j (fun i => (L.getD i nod0).K) vs ++ [.int .i64 x.K, vf]))
    (hf : ∀ i, i < j → w.ownsRow B tv 5 (vs i) (L.getD i nod0).fs.length (rowV (L.getD i nod0).fs)) (hx : w.ownsRow B tv 5 vf x.fs.length (rowV x.fs)) : NodOwn w B tn tv v' (L ++ [x]) := by
  have g1 : ∀ i, i < j → (L ++ [x]).getD i nod0 = L.getD i nod0 := fun i hi => by
    rw [List.getD_eq_getElem?_getD, List.getD_eq_getElem?_getD, List.getElem?_append_left (by omega)]
  have g2 : (L ++ [x]).getD j nod0 = x := by
    rw [List.getD_eq_getElem?_getD, List.getElem?_append_right (by omega), hj]
    simp
  refine ⟨fun i => if i < j then vs i else vf, ?_, ?_⟩
  · rw [List.length_append, hj]
    have e : nodC (j + 1) (fun i => ((L ++ [x]).getD i nod0).K) (fun i => if i < j then vs i else vf) = nodC j (fun i => (L.getD i nod0).K) vs ++ [.int .i64 x.K, vf] := by
      rw [nodC_succ]
      congr 1
      · exact nodC_congr (fun i hi => ⟨by rw [g1 i hi], if_pos hi⟩)
      · rw [g2, if_neg (by omega)]
    show w.ownsRow B tn 2 v' (j + 1) (nodC (j + 1) _ _)
    rw [e]
    exact h
  · intro i hi
    rw [List.length_append, hj] at hi
    simp only [List.length_cons, List.length_nil] at hi
    dsimp only
    rcases Nat.lt_or_ge i j with h1 | h1
    · rw [if_pos h1, g1 i h1]; exact hf i h1
    · obtain rfl : i = j := by omega
      rw [if_neg (by omega), g2]
      exact hx

theorem NodOwn.set {w : World} {B : Nat} {tn tv : TypeId} {v : Value} {L : List Nod} (h : NodOwn w B tn tv v L) {a : Addr} (ha : a.block < B) (u : Value) : NodOwn (w.setCell a u) B tn tv v L := by
  obtain ⟨vs, h1, h2⟩ := h
  exact ⟨vs, ownsRow_setCell_below h1 ha u, fun i hi => ownsRow_setCell_below (h2 i hi) ha u⟩

theorem NodOwn.keepO {w w' : World} {B : Nat} {tn tv : TypeId} {v : Value} {L : List Nod} {own : List Nat} (h : NodOwn w B tn tv v L) (hk : Keep own w w') (ho : ∀ x ∈ own, x < B) : NodOwn w' B tn tv v L := by
  obtain ⟨vs, h1, h2⟩ := h
  refine ⟨vs, owns_keepO h1 hk (fun g hg hm => ?_), fun i hi => owns_keepO (h2 i hi) hk (fun g hg hm => ?_)⟩
  · have := (h1.lt g hg).1
    have := ho g hm
    omega
  · have := ((h2 i hi).lt g hg).1
    have := ho g hm
    omega
theorem two_new7 (w : World) (x : Int) (v : Value) (t : TypeId) : ∀ j u, [Value.int .i64 x, v][j]? = some u → (w.alloc (.cells #[.int .i64 x, v] t)).cell? ((⟨w.heap.size, 0, none⟩ : Addr).add j) = some u := by
  intro j u hu
  rw [Go.Proofs.Ytigclopkoolocaa.addr_add0, Nat.zero_add, (Blk.new w t #[.int .i64 x, v]).cell, ← hu]
  simp
end Go.Flo
namespace Go.Proofs.Ytigclopkoolocaa
open Go.RowKit Go.Flo Go.Bit
set_option maxRecDepth 100000

theorem nodparts : (Try.prog.info? 35).map (fun i => (i.zero, i.size, i.bytes)) = some (some (.agg #[.int .i64 0, .slice none 0 0]), 2, 32) := by kernel_rfl

theorem mk_ints (n : Nat) (hn : n ≤ 65536) (W : World) : (Instr.makeSlice 23 (.int .i64 (n : Nat)) (.int .i64 (n : Nat))).run Try.prog W = .ok (.slice (some ⟨W.heap.size, 0, none⟩) n n) (W.alloc (.cells (madeCells #[Value.int .i64 0] n) 3)) := by
  obtain ⟨i, hi, h1, h2, h3⟩ := info_of intparts
  have := run_make (P := Try.prog) W 23 3 i (.int .i64 0) Try.underlying23 hi h1 .i64 .i64 (n : Nat) (n : Nat) (by omega) (by omega) (by rw [h3]; omega) (by omega)
  rw [h2] at this
  simpa [Value.cells] using this

theorem nod_done {w : World} {B : Nat} {v : Value} {L : List Nod} (h : NodOwn w B 35 37 v L) : ∃ A c, v = .slice A L.length c ∧ NodL w A c L := by
  obtain ⟨vs, h1, h2⟩ := h
  rcases h1.2 with ⟨rfl, h0⟩ | ⟨gg, cap, cur, rfl, hg, _⟩
  · have hn : L.length = 0 := by first | exact h0 | exact h0.1 | exact h0.2
    have hl : L = [] := List.length_eq_zero_iff.1 hn
    subst hl
    exact ⟨none, 0, rfl, NodL.nil _⟩
  · have hlt := (h1.lt gg rfl).2
    have hc := h1.cells (g := gg) rfl
    rename_i hr
    have hcc : L.length ≤ cap ∧ cap ≤ 9223372036854775807 := ⟨hr.2.1, by have := hr.2.2.1; unfold maxLen at this; omega⟩
    refine ⟨some ⟨gg, 0, none⟩, cap, rfl, hcc.1, hcc.2, fun _ => ⟨gg, 0, rfl, hlt, fun i hi => ?_⟩⟩
    obtain ⟨A', c', e, hv⟩ := owns_vals (h2 i hi)
    obtain ⟨g1, g2⟩ := nodC_get (fun i => (L.getD i nod0).K) vs hi
    have q1 := hc _ _ g1
    have q2 := hc _ _ g2
    rw [addr_add0] at q1 q2
    rw [e] at q2
    refine ⟨A', c', q1, ?_, hv⟩
    rw [Nat.add_assoc]
    exact q2

theorem rplain_v (K n p q r : Int) (w : World) : Calls Try.prog 31 #[.agg #[.int .i64 K, .int .i64 n, .int .u64 p, .int .u64 q, .int .i64 r]] w fun e w' => e = .returned (.agg #[.int .i64 (plainV ⟨K, n, p, q, r⟩).K, .int .i64 (plainV ⟨K, n, p, q, r⟩).n, .int .u64 (plainV ⟨K, n, p, q, r⟩).p, .int .u64 (plainV ⟨K, n, p, q, r⟩).q, .int .i64 (plainV ⟨K, n, p, q, r⟩).r]) ∧ Keep [] w w' := by
  unfold plainV
  by_cases h1 : K = 1
  · subst h1; exact rplain1 n p q r w
  by_cases h2 : K = 2
  · subst h2; exact rplain2 n p q r w
  by_cases h3 : K = 3
  · subst h3; exact rplain3 n p q r w
  rw [if_neg h1, if_neg h2, if_neg h3]
  exact rplainx K h1 h2 h3 n p q r w

/-- One number more, at a step of a region that draws. -/
theorem step_i64 {ops : Array Oper} {o : Oper} {a : Act} {w : World} {K : Act → World → Prop} {Q : Exit → Act → World → Prop} {E : Prop} {t1 t2 : Tmp} (hgd : o.guard = none)
    (ho : o.op = .call { callee := .builtin .append, args := #[.tmp t1, .tmp t2], argTypes := #[23, 23] }) {wr : World} {B n H O : Nat} {v : Value} {xs : List Value} {x : Int} {tg : TypeId} {cs : Array Value}
    (hrow : wr.ownsRow B 3 1 v n xs) (hO : Blk wr O tg cs) (hOB : O < B) (hB : B ≤ wr.heap.size) (hn : n ≤ 65536) (hs : a.eval (.tmp t1) = v) (hx : a.eval (.tmp t2) = .slice (some ⟨H, 0, none⟩) 1 1) (hH : H = wr.heap.size)
    (hw : w.heap = (wr.alloc (.cells #[.int .i64 x] 3)).heap) (hos : w.os = wr.os) (htp : w.tape = wr.tape) (hou : w.output = wr.output)
    (h : ∀ g cap w', w'.ownsRow B 3 1 (.slice (some ⟨g, 0, none⟩) (n + 1) cap) (n + 1) (xs ++ [.int .i64 x]) → Blk w' O tg cs → (∀ w0, Keep [O] w0 wr → w0.heap.size ≤ B → Keep [O] w0 w') → K (a.put o.dst (.slice (some ⟨g, 0, none⟩) (n + 1) cap)) w') :
    if Region.wanted o (yielded ops a.tmps) = true then Oper.wp Try.prog o a w K Q else E := by
  obtain ⟨j0, hj0, hy0, hy1, hy2⟩ := info_of intparts
  have hsz : w.heap.size = wr.heap.size + 1 := by rw [hw]; simp
  have kk : Keep [] wr w := ⟨hos, htp, hou, by omega, fun k hk _ => by
    rw [hw]
    exact Below.heap_alloc _ _ _ hk⟩
  have hrow' := owns_kept hrow kk
  have hnews : ∀ j u, [Value.int .i64 x][j]? = some u → w.cell? ((⟨H, 0, none⟩ : Addr).add j) = some u := by
    intro j u hu
    have := one_new6 wr (.int .i64 x) 3 j u hu
    rw [← hH] at this
    unfold World.cell? at this ⊢
    rw [hw]
    exact this
  refine step_append_lies w hgd (.tmp t1) (.tmp t2) 23 ho B 3 j0 (.int .i64 0) 1 8 Try.underlying23 hj0 hy0 hy1 hy2 rfl (by omega) v n xs hs hrow' ⟨H, 0, none⟩ 1 1 _ hx rfl hnews (by intro u hu; simp at hu; subst hu; rfl) (by omega) (by unfold maxLen; omega) (by omega) (by omega) _ rfl ?_
  intro g cap w' hown hgrow _ _
  refine h g cap w' hown (grown_blk (hO.keep kk (by simp)) hOB hrow' hgrow) (fun w0 hk0 hw0 => ?_)
  exact (hk0.trans kk.of_nil).later (own' := v.ownBlock.toList) (Keep.grown hgrow (fun k _ e => by simp [e])) (fun k hk => by
    simp at hk
    have := (hrow.lt k hk).1
    exact Or.inl (by omega))

end Go.Proofs.Ytigclopkoolocaa
