/-
  The document's twin of package graph: Trim. No conditions but what is in memory.
-/
import Derived.Test.YtigclopkoolocaaDoorGr4
import Derived.Deep.RegionLaw
import Derived.Deep.AppendLies
namespace Go.Flo
open Go.RowKit Go.Bit

/-- A graph, told. -/
def GrPost (t : Gr) (w : World) (e : Ending) (w' : World) : Prop :=
  ∃ A0 A1 A2 c0 c1 c2, e = .returned (.agg #[.slice A0 t.nodes.length c0, .slice A1 t.roots.length c1, .slice A2 t.weaks.length c2]) ∧ GIn w' A0 A1 A2 c0 c1 c2 t ∧ Keep [] w w'

theorem Blk.set3 {w : World} {g : Nat} {t : TypeId} {z0 z1 z2 : Value} (h : Blk w g t #[z0, z1, z2]) (a b c : Value) :
    Blk (((w.setCell ⟨g, 0, none⟩ a).setCell ⟨g, 1, none⟩ b).setCell ⟨g, 2, none⟩ c) g t #[a, b, c] := ((h.set_ 0 a).set_ 1 b).set_ 2 c
theorem Keep.later {own own' : List Nat} {a b c : World} (h : Keep own a b) (k : Keep own' b c) (ho : ∀ x ∈ own', a.heap.size ≤ x ∨ x ∈ own) : Keep own a c :=
  ⟨k.os.trans h.os, k.tape.trans h.tape, k.output.trans h.output, Nat.le_trans h.size k.size, fun i hi hn => (k.block i (Nat.lt_of_lt_of_le hi h.size) (fun hm => by
    rcases ho i hm with h1 | h1
    · omega
    · exact hn h1)).trans (h.block i hi hn)⟩
theorem owns_keepO {w w' : World} {B n size : Nat} {t : TypeId} {v : Value} {xs : List Value} {own : List Nat} (hown : w.ownsRow B t size v n xs) (hk : Keep own w w') (hne : ∀ g, v.ownBlock = some g → g ∉ own) : w'.ownsRow B t size v n xs := by
  refine ⟨hown.1, ?_⟩
  rcases hown.2 with h | ⟨g, cap, cur, h1, h2, h3, h4⟩
  · exact Or.inl h
  · refine Or.inr ⟨g, cap, cur, h1, h2, ?_, h4⟩
    rw [hk.block g (by rcases Nat.lt_or_ge g w.heap.size with h | h; exact h; rw [Array.getElem?_eq_none h] at h3; cases h3) (hne g (by rw [h1]; rfl))]
    exact h3
theorem NodL.nil (w : World) : NodL w none 0 [] := ⟨by simp, by omega, by simp⟩
theorem IntL.nil (w : World) : IntL w none 0 [] := Ints.none _ _

/-- Not too many fields, roots. -/
def Slim (g : Gr) : Prop := g.roots.length ≤ 65536 ∧ g.weaks.length ≤ 65536 ∧ ∀ i, i < g.n → (g.at i).fs.length ≤ 65536
theorem Light12.slim {g : Gr} (h : Light12 g) : Slim g := ⟨by have := h.2.1; omega, by have := h.2.2.1; omega, fun i hi => by have := h.2.2.2 i hi; omega⟩

/-- A node of a row, renumbered. -/
def nodeR (g : Gr) (R : List Nat) (i : Nat) : Nod := ⟨(g.at i).K, (g.at i).fs.map (plainR R)⟩

theorem place_nil (a : Nat) : place [] (a : Int) = -1 := by simp [place]
theorem place_snoc {R : List Nat} {i : Nat} (hi : i ∉ R) (a : Nat) : place (R ++ [i]) (a : Int) = if a = i then (R.length : Int) else place R (a : Int) := by
  unfold place
  rw [Int.toNat_natCast]
  by_cases e : a = i
  · subst e
    rw [if_pos ⟨by omega, by simp⟩, if_pos rfl, List.idxOf_append]
    simp [hi]
  · rw [if_neg e]
    by_cases hm : a ∈ R
    · rw [if_pos ⟨by omega, by simp [hm]⟩, if_pos ⟨by omega, hm⟩, List.idxOf_append, if_pos hm]
    · rw [if_neg (by simp [hm, e]), if_neg (by simp [hm])]

theorem not_mem_take {R : List Nat} (h : R.Nodup) {j : Nat} (hj : j < R.length) : R.getD j 0 ∉ R.take j := by
  have e : R.take (j + 1) = R.take j ++ [R.getD j 0] := by
    rw [List.take_add_one, List.getD_eq_getElem?_getD, List.getElem?_eq_getElem hj]
    rfl
  have hn : (R.take (j + 1)).Nodup := h.sublist (List.take_sublist _ _)
  rw [e, List.nodup_append] at hn
  intro hm
  exact hn.2.2 _ hm _ (by simp) rfl

/-- Cells of nodes. -/
def nodC (n : Nat) (K : Nat → Int) (vs : Nat → Value) : List Value := (List.range n).flatMap fun i => [.int .i64 (K i), vs i]
theorem nodC_succ (n : Nat) (K : Nat → Int) (vs : Nat → Value) : nodC (n + 1) K vs = nodC n K vs ++ [.int .i64 (K n), vs n] := by
  unfold nodC
  rw [List.range_succ, List.flatMap_append]
  simp
theorem nodC_congr {n : Nat} {K K' : Nat → Int} {vs vs' : Nat → Value} (h : ∀ i, i < n → K i = K' i ∧ vs i = vs' i) : nodC n K vs = nodC n K' vs' := by
  induction n with
  | zero => rfl
  | succ n ih =>
    rw [nodC_succ, nodC_succ, ih (fun i hi => h i (by omega)), (h n (by omega)).1, (h n (by omega)).2]
theorem nodC_len (n : Nat) (K : Nat → Int) (vs : Nat → Value) : (nodC n K vs).length = n * 2 := by
  induction n with
  | zero => rfl
  | succ n ih => rw [nodC_succ, List.length_append, ih]; simp; omega
theorem nodC_get {n : Nat} (K : Nat → Int) (vs : Nat → Value) {i : Nat} (h : i < n) : (nodC n K vs)[i * 2]? = some (.int .i64 (K i)) ∧ (nodC n K vs)[i * 2 + 1]? = some (vs i) := by
  induction n with
  | zero => omega
  | succ n ih =>
    rw [nodC_succ]
    have hl := nodC_len n K vs
    rcases Nat.lt_or_ge i n with h1 | h1
    · obtain ⟨a, b⟩ := ih h1
      rw [List.getElem?_append_left (by omega), List.getElem?_append_left (by omega)]
      exact ⟨a, b⟩
    · obtain rfl : i = n := by omega
      rw [List.getElem?_append_right (by omega), List.getElem?_append_right (by omega), hl]
      simp

/-- Nodes in a row of one's own, each one's fields in a row of its own. -/
def NodOwn (w : World) (B : Nat) (tn tv : TypeId) (v : Value) (L : List Nod) : Prop :=
  ∃ vs : Nat → Value, w.ownsRow B tn 2 v L.length (nodC L.length (fun i => (L.getD i nod0).K) vs) ∧
    ∀ i, i < L.length → w.ownsRow B tv 5 (vs i) (L.getD i nod0).fs.length (rowV (L.getD i nod0).fs)

theorem NodOwn.nil (w : World) (B : Nat) (tn tv : TypeId) : NodOwn w B tn tv (.slice none 0 0) [] := ⟨fun _ => .slice none 0 0, ⟨rfl, Or.inl ⟨rfl, rfl⟩⟩, fun i hi => by simp at hi⟩

theorem owns_mono {w : World} {B B' n size : Nat} {t : TypeId} {v : Value} {xs : List Value} (h : w.ownsRow B t size v n xs) (hb : B' ≤ B) : w.ownsRow B' t size v n xs :=
  ⟨h.1, h.2.imp id (fun ⟨g, cap, cur, h1, h2, h3⟩ => ⟨g, cap, cur, h1, Nat.le_trans hb h2, h3⟩)⟩
theorem owns_apart {w : World} {B B' n n' size size' : Nat} {t t' : TypeId} {v v' : Value} {xs xs' : List Value} (ht : t ≠ t') (h : w.ownsRow B t size v n xs) (h' : w.ownsRow B' t' size' v' n' xs') : v.ownBlock = none ∨ v.ownBlock ≠ v'.ownBlock := by
  rcases h.2 with ⟨rfl, _⟩ | ⟨g, cap, cur, rfl, _, h3, _⟩
  · exact Or.inl rfl
  · refine Or.inr (fun e => ?_)
    rcases h'.2 with ⟨rfl, _⟩ | ⟨g', cap', cur', rfl, _, h3', _⟩
    · simp [Value.ownBlock] at e
    · simp [Value.ownBlock] at e
      subst e
      rw [h3] at h3'
      injection h3' with e
      injection e with _ e
      exact ht e

theorem NodOwn.snoc {w : World} {B j : Nat} {tn tv : TypeId} {v' vf : Value} {L : List Nod} {x : Nod} {vs : Nat → Value} (hj : L.length = j)
    (h : w.ownsRow B tn 2 v' (j + 1) (nodC j (fun i => (L.getD i nod0).K) vs ++ [.int .i64 x.K, vf]))
    (hf : ∀ i, i < j → w.ownsRow B tv 5 (vs i) (L.getD i nod0).fs.length (rowV (L.getD i nod0).fs)) (hx : w.ownsRow B tv 5 vf x.fs.length (rowV x.fs)) : NodOwn w B tn tv v' (L ++ [x]) := by
  have g1 : ∀ i, i < j → (L ++ [x]).getD i nod0 = L.getD i nod0 := fun i hi => by
    rw [List.getD_eq_getElem?_getD, List.getD_eq_getElem?_getD, List.getElem?_append_left (by omega)]
  have g2 : (L ++ [x]).getD j nod0 = x := by
    rw [List.getD_eq_getElem?_getD, List.getElem?_append_right (by omega), hj]
    simp
  refine ⟨fun i => if i < j then vs i else vf, ?_, ?_⟩
  · rw [List.length_append, hj]
    have e : nodC (j + 1) (fun i => ((L ++ [x]).getD i nod0).K) (fun i => if i < j then vs i else vf) = nodC j (fun i => (L.getD i nod0).K) vs ++ [.int .i64 x.K, vf] := by
      rw [nodC_succ]
      congr 1
      · exact nodC_congr (fun i hi => ⟨by rw [g1 i hi], if_pos hi⟩)
      · rw [g2, if_neg (by omega)]
    show w.ownsRow B tn 2 v' (j + 1) (nodC (j + 1) _ _)
    rw [e]
    exact h
  · intro i hi
    rw [List.length_append, hj] at hi
    simp only [List.length_cons, List.length_nil] at hi
    dsimp only
    rcases Nat.lt_or_ge i j with h1 | h1
    · rw [if_pos h1, g1 i h1]; exact hf i h1
    · obtain rfl : i = j := by omega
      rw [if_neg (by omega), g2]
      exact hx

theorem NodOwn.set {w : World} {B : Nat} {tn tv : TypeId} {v : Value} {L : List Nod} (h : NodOwn w B tn tv v L) {a : Addr} (ha : a.block < B) (u : Value) : NodOwn (w.setCell a u) B tn tv v L := by
  obtain ⟨vs, h1, h2⟩ := h
  exact ⟨vs, ownsRow_setCell_below h1 ha u, fun i hi => ownsRow_setCell_below (h2 i hi) ha u⟩

theorem NodOwn.keepO {w w' : World} {B : Nat} {tn tv : TypeId} {v : Value} {L : List Nod} {own : List Nat} (h : NodOwn w B tn tv v L) (hk : Keep own w w') (ho : ∀ x ∈ own, x < B) : NodOwn w' B tn tv v L := by
  obtain ⟨vs, h1, h2⟩ := h
  refine ⟨vs, owns_keepO h1 hk (fun g hg hm => ?_), fun i hi => owns_keepO (h2 i hi) hk (fun g hg hm => ?_)⟩
  · have := (h1.lt g hg).1
    have := ho g hm
    omega
  · have := ((h2 i hi).lt g hg).1
    have := ho g hm
    omega
theorem two_new7 (w : World) (x : Int) (v : Value) (t : TypeId) : ∀ j u, [Value.int .i64 x, v][j]? = some u → (w.alloc (.cells #[.int .i64 x, v] t)).cell? ((⟨w.heap.size, 0, none⟩ : Addr).add j) = some u := by
  intro j u hu
  rw [Go.Proofs.YtigclopkoolocaaDoor.addr_add0, Nat.zero_add, (Blk.new w t #[.int .i64 x, v]).cell, ← hu]
  simp
end Go.Flo
namespace Go.Proofs.YtigclopkoolocaaDoor
open Go.RowKit Go.Flo Go.Bit
set_option maxRecDepth 100000

theorem nodparts : (Tryd.prog.info? 33).map (fun i => (i.zero, i.size, i.bytes)) = some (some (.agg #[.int .i64 0, .slice none 0 0]), 2, 32) := by kernel_rfl

theorem mk_ints (n : Nat) (hn : n ≤ 65536) (W : World) : (Instr.makeSlice 23 (.int .i64 (n : Nat)) (.int .i64 (n : Nat))).run Tryd.prog W = .ok (.slice (some ⟨W.heap.size, 0, none⟩) n n) (W.alloc (.cells (madeCells #[Value.int .i64 0] n) 3)) := by
  obtain ⟨i, hi, h1, h2, h3⟩ := info_of intparts
  have := run_make (P := Tryd.prog) W 23 3 i (.int .i64 0) Tryd.underlying23 hi h1 .i64 .i64 (n : Nat) (n : Nat) (by omega) (by omega) (by rw [h3]; omega) (by omega)
  rw [h2] at this
  simpa [Value.cells] using this

theorem nod_done {w : World} {B : Nat} {v : Value} {L : List Nod} (h : NodOwn w B 33 36 v L) : ∃ A c, v = .slice A L.length c ∧ NodL w A c L := by
  obtain ⟨vs, h1, h2⟩ := h
  rcases h1.2 with ⟨rfl, h0⟩ | ⟨gg, cap, cur, rfl, hg, _⟩
  · have hn : L.length = 0 := by first | exact h0 | exact h0.1 | exact h0.2
    have hl : L = [] := List.length_eq_zero_iff.1 hn
    subst hl
    exact ⟨none, 0, rfl, NodL.nil _⟩
  · have hlt := (h1.lt gg rfl).2
    have hc := h1.cells (g := gg) rfl
    rename_i hr
    have hcc : L.length ≤ cap ∧ cap ≤ 9223372036854775807 := ⟨hr.2.1, by have := hr.2.2.1; unfold maxLen at this; omega⟩
    refine ⟨some ⟨gg, 0, none⟩, cap, rfl, hcc.1, hcc.2, fun _ => ⟨gg, 0, rfl, hlt, fun i hi => ?_⟩⟩
    obtain ⟨A', c', e, hv⟩ := owns_vals (h2 i hi)
    obtain ⟨g1, g2⟩ := nodC_get (fun i => (L.getD i nod0).K) vs hi
    have q1 := hc _ _ g1
    have q2 := hc _ _ g2
    rw [addr_add0] at q1 q2
    rw [e] at q2
    refine ⟨A', c', q1, ?_, hv⟩
    rw [Nat.add_assoc]
    exact q2

theorem rplain_v (K n p q r : Int) (w : World) : Calls Tryd.prog 16 #[.agg #[.int .i64 K, .int .i64 n, .int .u64 p, .int .u64 q, .int .i64 r]] w fun e w' => e = .returned (.agg #[.int .i64 (plainV ⟨K, n, p, q, r⟩).K, .int .i64 (plainV ⟨K, n, p, q, r⟩).n, .int .u64 (plainV ⟨K, n, p, q, r⟩).p, .int .u64 (plainV ⟨K, n, p, q, r⟩).q, .int .i64 (plainV ⟨K, n, p, q, r⟩).r]) ∧ Keep [] w w' := by
  unfold plainV
  by_cases h1 : K = 1
  · subst h1; exact rplain1 n p q r w
  by_cases h2 : K = 2
  · subst h2; exact rplain2 n p q r w
  by_cases h3 : K = 3
  · subst h3; exact rplain3 n p q r w
  rw [if_neg h1, if_neg h2, if_neg h3]
  exact rplainx K h1 h2 h3 n p q r w

/-- One number more, at a step of a region that draws. -/
theorem step_i64 {ops : Array Oper} {o : Oper} {a : Act} {w : World} {K : Act → World → Prop} {Q : Exit → Act → World → Prop} {E : Prop} {t1 t2 : Tmp} (hgd : o.guard = none)
    (ho : o.op = .call { callee := .builtin .append, args := #[.tmp t1, .tmp t2], argTypes := #[23, 23] }) {wr : World} {B n H O : Nat} {v : Value} {xs : List Value} {x : Int} {tg : TypeId} {cs : Array Value}
    (hrow : wr.ownsRow B 3 1 v n xs) (hO : Blk wr O tg cs) (hOB : O < B) (hB : B ≤ wr.heap.size) (hn : n ≤ 65536) (hs : a.eval (.tmp t1) = v) (hx : a.eval (.tmp t2) = .slice (some ⟨H, 0, none⟩) 1 1) (hH : H = wr.heap.size)
    (hw : w.heap = (wr.alloc (.cells #[.int .i64 x] 3)).heap) (hos : w.os = wr.os) (htp : w.tape = wr.tape) (hou : w.output = wr.output)
    (h : ∀ g cap w', w'.ownsRow B 3 1 (.slice (some ⟨g, 0, none⟩) (n + 1) cap) (n + 1) (xs ++ [.int .i64 x]) → Blk w' O tg cs → (∀ w0, Keep [O] w0 wr → w0.heap.size ≤ B → Keep [O] w0 w') → K (a.put o.dst (.slice (some ⟨g, 0, none⟩) (n + 1) cap)) w') :
    if Region.wanted o (yielded ops a.tmps) = true then Oper.wp Tryd.prog o a w K Q else E := by
  obtain ⟨j0, hj0, hy0, hy1, hy2⟩ := info_of intparts
  have hsz : w.heap.size = wr.heap.size + 1 := by rw [hw]; simp
  have kk : Keep [] wr w := ⟨hos, htp, hou, by omega, fun k hk _ => by
    rw [hw]
    exact Below.heap_alloc _ _ _ hk⟩
  have hrow' := owns_kept hrow kk
  have hnews : ∀ j u, [Value.int .i64 x][j]? = some u → w.cell? ((⟨H, 0, none⟩ : Addr).add j) = some u := by
    intro j u hu
    have := one_new6 wr (.int .i64 x) 3 j u hu
    rw [← hH] at this
    unfold World.cell? at this ⊢
    rw [hw]
    exact this
  refine step_append_lies w hgd (.tmp t1) (.tmp t2) 23 ho B 3 j0 (.int .i64 0) 1 8 Tryd.underlying23 hj0 hy0 hy1 hy2 rfl (by omega) v n xs hs hrow' ⟨H, 0, none⟩ 1 1 _ hx rfl hnews (by intro u hu; simp at hu; subst hu; rfl) (by omega) (by unfold maxLen; omega) (by omega) (by omega) _ rfl ?_
  intro g cap w' hown hgrow _ _
  refine h g cap w' hown (grown_blk (hO.keep kk (by simp)) hOB hrow' hgrow) (fun w0 hk0 hw0 => ?_)
  exact (hk0.trans kk.of_nil).later (own' := v.ownBlock.toList) (Keep.grown hgrow (fun k _ e => by simp [e])) (fun k hk => by
    simp at hk
    have := (hrow.lt k hk).1
    exact Or.inl (by omega))

theorem rplace_any (W : World) (S k : Nat) (R : List Nat) (y : Int) (h : Row W 3 S k k (fun a => .int .i64 (place R (a : Nat)))) (hy : y < k) :
    Calls Tryd.prog 25 #[.slice (some ⟨S, 0, none⟩) k k, .int .i64 y] W fun e w' => e = .returned (.int .i64 (place R y)) ∧ W = w' := by
  by_cases h0 : y < 0
  · rw [show place R y = -1 from if_neg (by omega)]
    exact rplace_neg _ _ _ y h0 W
  · obtain ⟨r, rfl⟩ : ∃ r : Nat, y = r := ⟨y.toNat, by omega⟩
    have h9 : r < k := by omega
    exact rplace_at S 0 k k r (place R (r : Nat)) (by omega) W (by rw [Nat.zero_add]; exact h.cell (by omega))

set_option maxHeartbeats 4000000 in
theorem rtrim_any (w : World) (A0 A1 A2 : Option Addr) (c0 c1 c2 : Nat) (g : Gr) (h : GIn w A0 A1 A2 c0 c1 c2 g) (hsl : Slim g) :
    Calls Tryd.prog 10 #[.agg #[.slice A0 g.nodes.length c0, .slice A1 g.roots.length c1, .slice A2 g.weaks.length c2]] w (GrPost (trimE g) w) := by
  have ka : Keep [] w (w.alloc (.cells #[.slice A0 g.nodes.length c0, .slice A1 g.roots.length c1, .slice A2 g.weaks.length c2] 25)) := Keep.alloc _ _
  have hb := Blk.new w 25 #[.slice A0 g.nodes.length c0, .slice A1 g.roots.length c1, .slice A2 g.weaks.length c2]
  obtain ⟨wa, hwa⟩ : ∃ wa, wa = w.alloc (.cells #[.slice A0 g.nodes.length c0, .slice A1 g.roots.length c1, .slice A2 g.weaks.length c2] 25) := ⟨_, rfl⟩
  rw [← hwa] at ka hb
  have hza : wa.heap.size = w.heap.size + 1 := by rw [hwa]; simp
  have kb : Keep [] wa (wa.alloc (.cells #[.slice none 0 0, .slice none 0 0, .slice none 0 0] 25)) := Keep.alloc _ _
  have hbo := Blk.new wa 25 #[.slice none 0 0, .slice none 0 0, .slice none 0 0]
  rw [hza] at hbo
  obtain ⟨w1, hw1⟩ : ∃ w1, w1 = wa.alloc (.cells #[.slice none 0 0, .slice none 0 0, .slice none 0 0] 25) := ⟨_, rfl⟩
  have hb := hb.keep kb (by simp)
  rw [← hw1] at kb hb hbo
  rw [hwa] at hw1
  have hz1 : w.heap.size + 1 < w1.heap.size := hbo.lt
  have hmay := rmayg_any w1 A0 A1 A2 c0 c1 c2 g (h.keep (ka.trans kb))
  have HB := Lib.hid (And.intro hb hbo)
  have HKA := Lib.hid (ka.trans kb)
  have hs1 := (ka.trans kb).size
  clear hb hbo ka kb hza hwa
  by_cases hM : MayG g
  case neg =>
    rw [show trimE g = ⟨[], [], []⟩ from if_neg hM]
    rw [decide_eq_false hM] at hmay
    clear h hM
    go_enter Tryd.func10, Tryd.ntmps10
    go_wp2_with fail
    rw [← hw1]
    (with_reducible refine hmay.mono ?_)
    rintro e w2 ⟨rfl, k2⟩
    clear hw1
    have hbo2 := HB.out.2.keep k2 (by simp)
    have z0 := (hbo2.cell 0).trans (show _ = some (Value.slice none 0 0) from rfl)
    have z1 := (hbo2.cell 1).trans (show _ = some (Value.slice none 0 0) from rfl)
    have z2 := (hbo2.cell 2).trans (show _ = some (Value.slice none 0 0) from rfl)
    have f0 := hbo2.frozen 0
    have f1 := hbo2.frozen 1
    have f2 := hbo2.frozen 2
    have kg : (Tryd.prog.info? 25).map (·.size) = some (#[.slice none 0 0, .slice none 0 0, .slice none 0 0] : Array Value).size := by kernel_rfl
    go_wp2
    (try simp only [Exit.inBlock, Exit.then])
    have hb5 := Blk.set3 hbo2 (.slice none 0 0) (.slice none 0 0) (.slice none 0 0)
    refine bodyPost_ret (v := .agg #[.slice none 0 0, .slice none 0 0, .slice none 0 0]) ?_ rfl ?_
    · exact results_cell_row rfl _ _ (w.heap.size + 1) 25 #[.slice none 0 0, .slice none 0 0, .slice none 0 0] (0, 0) _ rfl hb5 Tryd.underlying25 rfl kg
    refine ⟨none, none, none, 0, 0, 0, rfl, ⟨NodL.nil _, IntL.nil _, IntL.nil _⟩, (HKA.out.trans k2).since (own := [w.heap.size + 1]) ?_ (by simp)⟩
    exact ((Keep.setCell _ _ (by simp) _).trans (Keep.setCell _ _ (by simp) _)).trans (Keep.setCell _ _ (by simp) _)
  rw [decide_eq_true hM] at hmay
  have h4 := hM.1
  have hord := fun X (hk : Keep [] w X) => rorder_any X A0 A1 A2 A1 c0 c1 c2 c1 g g.roots (h.keep hk) h4 (h.roots.keep hk)
  rw [show trimE g = trimG g from if_pos hM]
  have hf := orderG_fine g g.roots
  obtain ⟨R, hR⟩ : ∃ R, orderG g g.roots = R := ⟨_, rfl⟩
  have HT := Lib.hid (show trimG g = trimR g R by rw [← hR]; rfl)
  rw [hR] at hord hf
  unfold OrdPost at hord
  rw [natI_len] at hord
  have hnn : g.nodes.length = g.n := rfl
  rw [hnn] at hmay hord HB hw1 ⊢
  have HG := Lib.hid (And.intro h hM)
  have HSL := Lib.hid hsl
  obtain ⟨n, hn⟩ : ∃ n, g.n = n := ⟨_, rfl⟩
  obtain ⟨n1, hn1⟩ : ∃ n1, g.roots.length = n1 := ⟨_, rfl⟩
  obtain ⟨n2, hn2⟩ : ∃ n2, g.weaks.length = n2 := ⟨_, rfl⟩
  have HN := Lib.hid (And.intro hn (And.intro hn1 hn2))
  rw [hn, hn1, hn2] at hord HB hw1 hmay ⊢
  rw [hn] at h4 hf
  have HO := Lib.hid hord
  have HF := Lib.hid hf
  have hrl := hf.len
  clear h hM hsl hord hf hR hnn hn hn1 hn2
  go_enter Tryd.func10, Tryd.ntmps10
  go_wp2_with fail
  rw [← hw1]
  (with_reducible refine hmay.mono ?_)
  rintro e w2 ⟨rfl, k2⟩
  clear hw1
  have hbo2 := HB.out.2.keep k2 (by simp)
  have hb2 := HB.out.1.keep k2 (by simp)
  have y0 := (hb2.cell 0).trans (show _ = some (Value.slice A0 n c0) from rfl)
  have y1 := (hb2.cell 1).trans (show _ = some (Value.slice A1 n1 c1) from rfl)
  have y2 := (hb2.cell 2).trans (show _ = some (Value.slice A2 n2 c2) from rfl)
  have hord := HO.out w2 (HKA.out.trans k2)
  have HK2 := Lib.hid (And.intro hb2 (And.intro (HKA.out.trans k2) (And.intro hbo2 k2)))
  clear hmay k2 hb2 hbo2
  go_wp2_with fail
  (with_reducible refine hord.mono ?_)
  rintro e w3 ⟨A, c, rfl, hil, k3⟩
  have HI := Lib.hid hil
  have hrc := hil.nc
  have hrm := hil.cap
  rw [natI_len] at hrc
  have hb3 := HK2.out.1.keep k3 (by simp)
  have x0 := (hb3.cell 0).trans (show _ = some (Value.slice A0 n c0) from rfl)
  have hs3 := (HK2.out.2.2.2.trans k3).size
  have HK3 := Lib.hid (And.intro hb3 (And.intro (HK2.out.2.1.trans k3) (HK2.out.2.2.1.keep k3 (by simp))))
  have hmk := mk_ints n (by omega) w3
  have hrow := Row.made w3 3 (.int .i64 0) rfl n (by unfold maxLen; omega)
  rw [Nat.mul_one, show (Value.int .i64 0).cells = #[Value.int .i64 0] from rfl] at hrow
  have k4 : Keep [] w3 (w3.alloc (.cells (madeCells #[Value.int .i64 0] n) 3)) := Keep.alloc _ _
  obtain ⟨w4, hw4⟩ : ∃ w4, w4 = w3.alloc (.cells (madeCells #[Value.int .i64 0] n) 3) := ⟨_, rfl⟩
  rw [← hw4] at k4 hrow hmk
  have HR4 := Lib.hid (And.intro hrow k4)
  have hs4 : w3.heap.size < w4.heap.size := hrow.lt
  clear hord y0 y1 y2 hil k3 hb3 hrow k4 hw4
  go_wp2
  go_loopw [32] (fun x wr => ∃ k : Nat, k ≤ n ∧ x = .int .i64 k ∧ Row wr 3 w3.heap.size n n (fun i => .int .i64 (if i < k then -1 else 0)) ∧ Keep [w3.heap.size] w4 wr) (fun x _ => n - (RowKit.intOf x).toNat)
  case atStart => exact ⟨0, by omega, rfl, HR4.out.1.congr (fun i _ => by simp), Keep.refl _ _⟩
  case round =>
  obtain ⟨k, hk, rfl, hrow, hK⟩ := hrel
  by_cases hlt : k < n
  case pos =>
    have fz := hrow.frozen k
    have ci := hrow.cell hlt
    have hkI : (k : Int) < n := by omega
    have hrow2 : Row (wr.setCell ⟨w3.heap.size, k, none⟩ (.int .i64 (-1))) 3 w3.heap.size n n (fun i => .int .i64 (if i < k + 1 then -1 else 0)) := (hrow.set_ k (.int .i64 (-1))).congr (fun a ha => by
      by_cases e : a = k
      · subst e; rw [if_pos rfl, if_pos (by omega)]
      · rw [if_neg e]
        congr 1
        by_cases h1 : a < k
        · rw [if_pos h1, if_pos (by omega)]
        · rw [if_neg h1, if_neg (by omega)])
    have HH := Lib.hid (And.intro hrow2 (hK.trans (Keep.setCell (own := [w3.heap.size]) wr ⟨w3.heap.size, k, none⟩ (by simp) (.int .i64 (-1)))))
    clear hrow hK hrow2
    go_wp2
    go_roundw
    case rel => exact ⟨k + 1, by omega, by go_num, HH.out.1, HH.out.2⟩
    case measure => simp [RowKit.intOf]; omega
  obtain rfl : k = n := by omega
  have HA := Lib.hid (And.intro (hrow.congr (f' := fun a => .int .i64 (place [] (a : Nat))) (fun a ha => by rw [if_pos ha, place_nil])) hK)
  have hsr : w4.heap.size ≤ wr.heap.size := hK.size
  obtain ⟨w5, hw5⟩ : ∃ w5, w5 = wr := ⟨_, rfl⟩
  rw [← hw5] at HA hsr ⊢
  clear hrow hK hw5
  go_wp2
  go_loopw [41] (fun x wr => ∃ j : Nat, j ≤ R.length ∧ x = .int .i64 j ∧ Row wr 3 w3.heap.size k k (fun a => .int .i64 (place (R.take j) (a : Nat))) ∧ Keep [w3.heap.size] w4 wr) (fun x _ => R.length - (RowKit.intOf x).toNat)
  case atStart => exact ⟨0, by omega, rfl, HA.out.1, HA.out.2⟩
  case round =>
  obtain ⟨j, hj, rfl, hrow, hK⟩ := hrel
  by_cases hlt : j < R.length
  case pos =>
    obtain ⟨bR, oR, rfl, hbR, hcR⟩ := HI.out.cells (by rw [natI_len]; omega)
    have cj0 := hcR j (by rw [natI_len]; exact hlt)
    rw [natI_get R hlt] at cj0
    have cj4 := (HR4.out.2.cell (p := ⟨bR, oR + j, none⟩) hbR (by simp)).trans cj0
    have cj := (hK.cell (p := ⟨bR, oR + j, none⟩) (by show bR < _; omega) (by simp; omega)).trans cj4
    have hmem : R.getD j 0 ∈ R := getD_mem hlt
    have hin := HF.out.2 _ hmem
    have hnt := not_mem_take HF.out.1 hlt
    have ht : R.take (j + 1) = R.take j ++ [R.getD j 0] := by
      rw [List.take_add_one, List.getD_eq_getElem?_getD, List.getElem?_eq_getElem hlt]
      rfl
    have hlj : (R.take j).length = j := by rw [List.length_take]; omega
    obtain ⟨i, hi⟩ : ∃ i, R.getD j 0 = i := ⟨_, rfl⟩
    rw [hi] at cj hin ht hnt
    have fz := hrow.frozen i
    have ci := hrow.cell hin
    have hiI : (i : Int) < k := by omega
    have hjI : (j : Int) < R.length := by omega
    have hrow2 : Row (wr.setCell ⟨w3.heap.size, i, none⟩ (.int .i64 (j : Nat))) 3 w3.heap.size k k (fun a => .int .i64 (place (R.take (j + 1)) (a : Nat))) := (hrow.set_ i (.int .i64 (j : Nat))).congr (fun a ha => by
      rw [ht, place_snoc hnt, hlj]
      by_cases e : a = i
      · subst e; simp
      · rw [if_neg e, if_neg e])
    have HH := Lib.hid (And.intro hrow2 (hK.trans (Keep.setCell (own := [w3.heap.size]) wr ⟨w3.heap.size, i, none⟩ (by simp) (.int .i64 (j : Nat)))))
    clear hcR cj0 cj4 hmem hi hrow hK hrow2 hnt ht hlj
    go_wp2
    go_roundw
    case rel => exact ⟨j + 1, by omega, by go_num, HH.out.1, HH.out.2⟩
    case measure => simp [RowKit.intOf]; omega
  obtain rfl : j = R.length := by omega
  rw [List.take_length] at hrow
  have hwk : Keep [] w wr := (HK3.out.2.1.trans HR4.out.2).since hK (by simp; omega)
  have hgr := ((HK3.out.1.keep HR4.out.2 (by simp)).keep hK (by simp; omega))
  have hre := ((HK3.out.2.2.keep HR4.out.2 (by simp)).keep hK (by simp; omega))
  have hil : IntL wr A c (natI R) := HI.out.keep (HR4.out.2.since hK (by simp))
  have hsw : w4.heap.size ≤ wr.heap.size := hK.size
  have ka : Keep [] wr (wr.alloc (.cells #[.slice none 0 0, .slice none 0 0, .slice none 0 0] 25)) := Keep.alloc _ _
  have hbo := Blk.new wr 25 #[.slice none 0 0, .slice none 0 0, .slice none 0 0]
  obtain ⟨w7, hw7⟩ : ∃ w7, w7 = wr.alloc (.cells #[.slice none 0 0, .slice none 0 0, .slice none 0 0] 25) := ⟨_, rfl⟩
  rw [← hw7] at ka hbo
  have hz7 : w7.heap.size = wr.heap.size + 1 := by rw [hw7]; simp
  have H7 := Lib.hid (And.intro (hwk.trans ka) (And.intro (hgr.keep ka (by simp)) (And.intro (hre.keep ka (by simp)) (And.intro (hil.keep ka) (And.intro (hrow.keep ka (by simp)) hbo)))))
  have hO1 : w3.heap.size < wr.heap.size := by omega
  have hO2 : w.heap.size + 1 < wr.heap.size := by omega
  clear hwk hgr hre hil hrow hK ka hbo HK2 HK3 HR4 HA HB HKA HI HO hmk x0 hs3 hs4 hsr hb hsw hs1
  go_wp2
  rw [← hw7]
  obtain ⟨O, hO⟩ : ∃ O, wr.heap.size = O := ⟨_, rfl⟩
  rw [hO] at H7 hO1 hO2 hz7 ⊢
  clear hw7 hO
  go_loopw [54] (fun x wx => ∃ (j : Nat) (v0 : Value), j ≤ R.length ∧ x = .int .i64 j ∧ Blk wx O 25 #[v0, .slice none 0 0, .slice none 0 0] ∧ NodOwn wx (O + 1) 33 36 v0 ((R.take j).map (nodeR g R)) ∧ Keep [O] w7 wx) (fun x _ => R.length - (RowKit.intOf x).toNat)
  case atStart => exact ⟨0, _, by omega, rfl, H7.out.2.2.2.2.2, NodOwn.nil _ _ _ _, Keep.refl _ _⟩
  case round =>
  obtain ⟨j, v0, hj, rfl, hbo, hno, hK⟩ := hrel
  have hKw : Keep [] w wr := H7.out.1.since hK (by simp; omega)
  by_cases hlt : j < R.length
  case neg =>
    obtain rfl : j = R.length := by omega
    rw [List.take_length] at hno
    have hg5 := H7.out.2.1.keep hK (by simp; omega)
    have cg1 := (hg5.cell 1).trans (show _ = some (Value.slice A1 n1 c1) from rfl)
    have hrs := HG.out.1.roots.keep hKw
    have hrc5 := hrs.nc
    have hrm5 := hrs.cap
    rw [HN.out.2.1] at hrc5
    have hsl1 := HSL.out.1
    have hsl2 := HSL.out.2.1
    rw [HN.out.2.1] at hsl1
    rw [HN.out.2.2] at hsl2
    have HW5 := Lib.hid (And.intro hbo (And.intro hno (And.intro hK hrs)))
    have hzO : O + 1 ≤ wr.heap.size := by have := hK.size; omega
    have hR5 := H7.out.2.2.2.2.1.keep hK (by simp; omega)
    have HR5 := Lib.hid (And.intro hKw hR5)
    have hrc6 := HG.out.1.weaks.nc
    have hrm6 := HG.out.1.weaks.cap
    rw [HN.out.2.2] at hrc6
    clear hbo hno hK hKw hg5 hrs hR5
    go_wp2
    clear cg1
    obtain ⟨w9, rfl⟩ : ∃ w9, w9 = wr := ⟨_, rfl⟩
    go_loopw [103] (fun x wx => ∃ (j : Nat) (v1 : Value), j ≤ n1 ∧ x = .int .i64 j ∧ Blk wx O 25 #[v0, v1, .slice none 0 0] ∧ wx.ownsRow w9.heap.size 3 1 v1 j (((g.roots.take j).map (place R)).map i64v) ∧ Keep [O] w9 wx) (fun x _ => n1 - (RowKit.intOf x).toNat)
    case atStart => exact ⟨0, _, by omega, rfl, HW5.out.1, ⟨rfl, Or.inl ⟨rfl, rfl⟩⟩, Keep.refl _ _⟩
    case round =>
    obtain ⟨j, v1, hj, rfl, hbo, how, hK⟩ := hrel
    have hKw : Keep [] w wr := HR5.out.1.since hK (by simp; omega)
    by_cases hlt : j < n1
    case neg =>
      obtain rfl : n1 = j := by omega
      rw [show g.roots.take n1 = g.roots by rw [← HN.out.2.1]; exact List.take_length] at how
      have hn6 := HW5.out.2.1.keepO hK (by simp)
      have HW6K := Lib.hid (HW5.out.2.2.1.trans hK)
      have hR6 := HR5.out.2.keep hK (by simp; omega)
      have HR6 := Lib.hid (And.intro hKw hR6)
      have HW6 := Lib.hid (And.intro hbo (And.intro hn6 how))
      have hg6 := (H7.out.2.1.keep HW6K.out (by simp; omega)).cell 2
      have cg2 := hg6.trans (show _ = some (Value.slice A2 n2 c2) from rfl)
      have hz6 := hK.size
      have hzO2 : O + 1 ≤ wr.heap.size := by omega
      clear hn6 hR6 hg6 hbo how hK hKw
      go_wp2
      clear cg2
      obtain ⟨w10, rfl⟩ : ∃ w10, w10 = wr := ⟨_, rfl⟩
      go_loopw [119] (fun x wx => ∃ (j : Nat) (v2 : Value), j ≤ n2 ∧ x = .int .i64 j ∧ Blk wx O 25 #[v0, v1, v2] ∧ wx.ownsRow w10.heap.size 3 1 v2 j (((g.weaks.take j).map (place R)).map i64v) ∧ Keep [O] w10 wx) (fun x _ => n2 - (RowKit.intOf x).toNat)
      case atStart => exact ⟨0, _, by omega, rfl, HW6.out.1, ⟨rfl, Or.inl ⟨rfl, rfl⟩⟩, Keep.refl _ _⟩
      case round =>
      obtain ⟨j, v2, hj, rfl, hbo, how, hK⟩ := hrel
      have hKw : Keep [] w wr := HR6.out.1.since hK (by simp; omega)
      by_cases hlt : j < n2
      case neg =>
        obtain rfl : n2 = j := by omega
        rw [show g.weaks.take n2 = g.weaks by rw [← HN.out.2.2]; exact List.take_length] at how
        have hn6 : NodOwn wr (O + 1) 33 36 v0 (R.map (nodeR g R)) := HW6.out.2.1.keepO hK (by simp)
        have hr6 := owns_keepO HW6.out.2.2 hK (fun x hx hm => by have := (HW6.out.2.2.lt x hx).1; simp at hm; omega)
        have hw6 := how
        obtain ⟨Ar, cr, rfl⟩ := owns_sl hr6
        obtain ⟨Aw, cw, rfl⟩ := owns_sl hw6
        obtain ⟨vs, hv0, hvs⟩ := hn6
        obtain ⟨An, cn, rfl⟩ := owns_sl hv0
        rw [List.length_map] at hv0 hbo
        have hre := H7.out.2.2.1.keep (own := [O]) HW6K.out (by simp; omega)
        have hre := hre.keep hK (by simp; omega)
        have o0 := (hbo.cell 0).trans (show _ = some (Value.slice An R.length cn) from rfl)
        have o1 := (hbo.cell 1).trans (show _ = some (Value.slice Ar n1 cr) from rfl)
        have o2 := (hbo.cell 2).trans (show _ = some (Value.slice Aw n2 cw) from rfl)
        have z0 := (hre.cell 0).trans (show _ = some (Value.slice none 0 0) from rfl)
        have z1 := (hre.cell 1).trans (show _ = some (Value.slice none 0 0) from rfl)
        have z2 := (hre.cell 2).trans (show _ = some (Value.slice none 0 0) from rfl)
        have f0 := hre.frozen 0
        have f1 := hre.frozen 1
        have f2 := hre.frozen 2
        have hb5 := Blk.set3 hre (.slice An R.length cn) (.slice Ar n1 cr) (.slice Aw n2 cw)
        have hsz10 := hK.size
        have HH := Lib.hid (And.intro hv0 (And.intro hvs (And.intro hr6 (And.intro hw6 hKw))))
        have kg : (Tryd.prog.info? 25).map (·.size) = some (#[.slice An R.length cn, .slice Ar n1 cr, .slice Aw n2 cw] : Array Value).size := by kernel_rfl
        clear hv0 hvs hr6 hw6 hKw how hbo hK hre
        go_wp2
        (try simp only [Exit.inBlock, Exit.then])
        refine bodyPost_ret (v := .agg #[.slice An R.length cn, .slice Ar n1 cr, .slice Aw n2 cw]) ?_ rfl ?_
        · exact results_cell_row rfl _ _ (w.heap.size + 1) 25 #[.slice An R.length cn, .slice Ar n1 cr, .slice Aw n2 cw] (0, 0) _ rfl hb5 Tryd.underlying25 rfl kg
        obtain ⟨hv0, hvs, hr6, hw6, hKw⟩ := HH.out
        have hn7 : NodOwn wr (O + 1) 33 36 (.slice An R.length cn) (R.map (nodeR g R)) := ⟨vs, by rw [List.length_map]; exact hv0, hvs⟩
        have hn8 := ((hn7.set (a := ⟨w.heap.size + 1, 0, none⟩) (by show w.heap.size + 1 < O + 1; omega) (.slice An R.length cn)).set (a := ⟨w.heap.size + 1, 1, none⟩) (by show w.heap.size + 1 < O + 1; omega) (.slice Ar n1 cr)).set (a := ⟨w.heap.size + 1, 2, none⟩) (by show w.heap.size + 1 < O + 1; omega) (.slice Aw n2 cw)
        have hr8 := ownsRow_setCell_below (ownsRow_setCell_below (ownsRow_setCell_below hr6 (a := ⟨w.heap.size + 1, 0, none⟩) (by show w.heap.size + 1 < _; omega) (.slice An R.length cn)) (a := ⟨w.heap.size + 1, 1, none⟩) (by show w.heap.size + 1 < _; omega) (.slice Ar n1 cr)) (a := ⟨w.heap.size + 1, 2, none⟩) (by show w.heap.size + 1 < _; omega) (.slice Aw n2 cw)
        have hw8 := ownsRow_setCell_below (ownsRow_setCell_below (ownsRow_setCell_below hw6 (a := ⟨w.heap.size + 1, 0, none⟩) (by show w.heap.size + 1 < _; omega) (.slice An R.length cn)) (a := ⟨w.heap.size + 1, 1, none⟩) (by show w.heap.size + 1 < _; omega) (.slice Ar n1 cr)) (a := ⟨w.heap.size + 1, 2, none⟩) (by show w.heap.size + 1 < _; omega) (.slice Aw n2 cw)
        have hlr : (g.roots.map (place R)).length = n1 := by rw [List.length_map]; exact HN.out.2.1
        have hlw : (g.weaks.map (place R)).length = n2 := by rw [List.length_map]; exact HN.out.2.2
        obtain ⟨Bn, bn, e1, g1⟩ := nod_done hn8
        obtain ⟨Br, br, e2, g2⟩ := owns_intl (l := g.roots.map (place R)) (by rw [hlr]; exact hr8)
        obtain ⟨Bw, bw, e3, g3⟩ := owns_intl (l := g.weaks.map (place R)) (by rw [hlw]; exact hw8)
        rw [e1, e2, e3, HT.out]
        refine ⟨Bn, Br, Bw, bn, br, bw, rfl, ⟨?_, ?_, ?_⟩, hKw.since (own := [w.heap.size + 1]) ((((Keep.setCell _ _ (by simp) _).trans (Keep.setCell _ _ (by simp) _)).trans (Keep.setCell _ _ (by simp) _))) (by simp)⟩
        · rw [← e1, ← e2, ← e3]; exact g1
        · rw [← e1, ← e2, ← e3]; exact g2
        · rw [← e1, ← e2, ← e3]; exact g3
      obtain ⟨bA, oA, rfl, hbA, hcA⟩ := HG.out.1.weaks.cells (by rw [HN.out.2.2]; omega)
      have cj := (hKw.cell (p := ⟨bA, oA + j, none⟩) hbA (by simp)).trans (hcA j (by rw [HN.out.2.2]; exact hlt))
      have hjl : j < g.weaks.length := by rw [HN.out.2.2]; exact hlt
      have htn := take_next hjl
      have hym : g.weaks.getD j 0 ∈ g.weaks := by rw [List.getD_eq_getElem?_getD, List.getElem?_eq_getElem hjl]; exact List.getElem_mem hjl
      have hy := HG.out.2.2.2.1 _ hym
      rw [HN.out.1] at hy
      obtain ⟨y, hye⟩ : ∃ y, g.weaks.getD j 0 = y := ⟨_, rfl⟩
      rw [hye] at cj htn hy
      have hjI : (j : Int) < n2 := by omega
      have hpl := fun W (hk : Keep [] wr W) => rplace_any W w3.heap.size k R y ((HR6.out.2.keep hK (by simp; omega)).keep hk (by simp)) hy.2
      have HPL := Lib.hid hpl
      have hxs : ((g.weaks.take (j + 1)).map (place R)).map i64v = ((g.weaks.take j).map (place R)).map i64v ++ [.int .i64 (place R y)] := by
        rw [htn, List.map_append, List.map_append]
        rfl
      obtain ⟨xs, hxe⟩ : ∃ xs, ((g.weaks.take j).map (place R)).map i64v = xs := ⟨_, rfl⟩
      rw [hxe] at how hxs
      have hsz := hK.size
      have o1 := (hbo.cell 2).trans (show _ = some v2 from rfl)
      have o1d : wr.drew.cell? ⟨O, 2, none⟩ = some v2 := o1
      have o1a := ((hbo.keep (Keep.drew (own := []) wr) (by simp)).keep (Keep.alloc (own := []) _ (.cells #[.int .i64 (place R y)] 3)) (by simp)).cell 2
      have o1b := o1a.trans (show _ = some v2 from rfl)
      have HX := Lib.hid (And.intro hbo (And.intro how (And.intro hK hxs)))
      have hOl := hbo.lt
      have hOn : ¬ O = wr.heap.size := by omega
      have hOn' : ¬ wr.heap.size = O := by omega
      clear o1a
      clear hcA htn hym hye hpl hxe hbo how hK hKw hxs hjl
      generalize place R y = py at *
      go_wp2_with fail
      go_region_law (first
        | (refine step_i64 rfl rfl HX.out.2.1 HX.out.1 hzO2 hsz (by omega) (by simp [Act.eval, Act.put]) (by simp [Act.eval, Act.put]) rfl rfl rfl rfl rfl ?_; intro g2 cap2 w11 hown21 hb11 hk11; have q1 := (Blk.cell hb11 2).trans (show _ = some v2 from rfl); have q2 := Blk.frozen hb11 2)
        | (go_simp; go_at_call 25; with_reducible refine (HPL.out _ (by repeat (first | (with_reducible refine Keep.trans ?_ (Keep.drew _)) | exact Keep.refl _ _ | exact Keep.dr (Dr.drewN _ _)))).mono ?_; rintro e w' ⟨rfl, rfl⟩))
      all_goals
        have H6 := Lib.hid (And.intro (hb11.set_ 2 (.slice (some ⟨g2, 0, none⟩) (j + 1) cap2)) (And.intro (ownsRow_setCell_below hown21 (a := ⟨O, 2, none⟩) (by show O < w10.heap.size; omega) (.slice (some ⟨g2, 0, none⟩) (j + 1) cap2)) ((hk11 w10 HX.out.2.2.1 (Nat.le_refl _)).trans (Keep.setCell (own := [O]) w11 ⟨O, 2, none⟩ (by simp) (.slice (some ⟨g2, 0, none⟩) (j + 1) cap2)))))
        clear hb11 hown21 hk11
        go_wp2_with fail
        go_roundw
        case rel => exact ⟨j + 1, .slice (some ⟨g2, 0, none⟩) (j + 1) cap2, by omega, by go_num, H6.out.1, by rw [HX.out.2.2.2]; exact H6.out.2.1, H6.out.2.2⟩
        case measure => simp [RowKit.intOf]; omega
    obtain ⟨bA, oA, rfl, hbA, hcA⟩ := HG.out.1.roots.cells (by rw [HN.out.2.1]; omega)
    have cj := (hKw.cell (p := ⟨bA, oA + j, none⟩) hbA (by simp)).trans (hcA j (by rw [HN.out.2.1]; exact hlt))
    have hjl : j < g.roots.length := by rw [HN.out.2.1]; exact hlt
    have htn := take_next hjl
    have hym : g.roots.getD j 0 ∈ g.roots := by rw [List.getD_eq_getElem?_getD, List.getElem?_eq_getElem hjl]; exact List.getElem_mem hjl
    have hy := HG.out.2.2.1 _ hym
    rw [HN.out.1] at hy
    obtain ⟨y, hye⟩ : ∃ y, g.roots.getD j 0 = y := ⟨_, rfl⟩
    rw [hye] at cj htn hy
    have hjI : (j : Int) < n1 := by omega
    have hpl := fun W (hk : Keep [] wr W) => rplace_any W w3.heap.size k R y ((HR5.out.2.keep hK (by simp; omega)).keep hk (by simp)) hy.2
    have HPL := Lib.hid hpl
    have hxs : ((g.roots.take (j + 1)).map (place R)).map i64v = ((g.roots.take j).map (place R)).map i64v ++ [.int .i64 (place R y)] := by
      rw [htn, List.map_append, List.map_append]
      rfl
    obtain ⟨xs, hxe⟩ : ∃ xs, ((g.roots.take j).map (place R)).map i64v = xs := ⟨_, rfl⟩
    rw [hxe] at how hxs
    have hsz := hK.size
    have o1 := (hbo.cell 1).trans (show _ = some v1 from rfl)
    have o1d : wr.drew.cell? ⟨O, 1, none⟩ = some v1 := o1
    have o1a := ((hbo.keep (Keep.drew (own := []) wr) (by simp)).keep (Keep.alloc (own := []) _ (.cells #[.int .i64 (place R y)] 3)) (by simp)).cell 1
    have o1b := o1a.trans (show _ = some v1 from rfl)
    have HX := Lib.hid (And.intro hbo (And.intro how (And.intro hK hxs)))
    have hOl := hbo.lt
    have hOn : ¬ O = wr.heap.size := by omega
    have hOn' : ¬ wr.heap.size = O := by omega
    clear o1a
    clear hcA htn hym hye hpl hxe hbo how hK hKw hxs hjl
    generalize place R y = py at *
    go_wp2_with fail
    go_region_law (first
      | (refine step_i64 rfl rfl HX.out.2.1 HX.out.1 hzO hsz (by omega) (by simp [Act.eval, Act.put]) (by simp [Act.eval, Act.put]) rfl rfl rfl rfl rfl ?_; intro g2 cap2 w11 hown11 hb11 hk11; have q1 := (Blk.cell hb11 1).trans (show _ = some v1 from rfl); have q2 := Blk.frozen hb11 1)
      | (go_simp; go_at_call 25; with_reducible refine (HPL.out _ (by repeat (first | (with_reducible refine Keep.trans ?_ (Keep.drew _)) | exact Keep.refl _ _ | exact Keep.dr (Dr.drewN _ _)))).mono ?_; rintro e w' ⟨rfl, rfl⟩))
    all_goals
      have H6 := Lib.hid (And.intro (hb11.set_ 1 (.slice (some ⟨g2, 0, none⟩) (j + 1) cap2)) (And.intro (ownsRow_setCell_below hown11 (a := ⟨O, 1, none⟩) (by show O < w9.heap.size; omega) (.slice (some ⟨g2, 0, none⟩) (j + 1) cap2)) ((hk11 w9 HX.out.2.2.1 (Nat.le_refl _)).trans (Keep.setCell (own := [O]) w11 ⟨O, 1, none⟩ (by simp) (.slice (some ⟨g2, 0, none⟩) (j + 1) cap2)))))
      clear hb11 hown11 hk11
      go_wp2_with fail
      go_roundw
      case rel => exact ⟨j + 1, .slice (some ⟨g2, 0, none⟩) (j + 1) cap2, by omega, by go_num, H6.out.1, by rw [HX.out.2.2.2]; exact H6.out.2.1, H6.out.2.2⟩
      case measure => simp [RowKit.intOf]; omega
  obtain ⟨bR, oR, rfl, hbR, hcR⟩ := H7.out.2.2.2.1.cells (by rw [natI_len]; omega)
  have cj0 := hcR j (by rw [natI_len]; exact hlt)
  rw [natI_get R hlt] at cj0
  have hbRO : bR ≠ O := by
    intro e
    subst e
    have q := (H7.out.2.2.2.2.2.cell (oR + j)).symm.trans cj0
    rcases Nat.lt_or_ge (oR + j) 3 with h3 | h3
    · have : oR + j = 0 ∨ oR + j = 1 ∨ oR + j = 2 := by omega
      rcases this with h | h | h <;> rw [h] at q <;> simp at q
    · rw [Array.getElem?_eq_none (by simpa using h3)] at q
      cases q
  have cj := (hK.cell (p := ⟨bR, oR + j, none⟩) hbR (by simpa using hbRO)).trans cj0
  have hmem : R.getD j 0 ∈ R := getD_mem hlt
  have hin := HF.out.2 _ hmem
  have ht : (R.take (j + 1)).map (nodeR g R) = (R.take j).map (nodeR g R) ++ [nodeR g R (R.getD j 0)] := by
    have e2 : R.take (j + 1) = R.take j ++ [R.getD j 0] := by
      rw [List.take_add_one, List.getD_eq_getElem?_getD, List.getElem?_eq_getElem hlt]
      rfl
    rw [e2, List.map_append]
    rfl
  obtain ⟨i, hi⟩ : ∃ i, R.getD j 0 = i := ⟨_, rfl⟩
  rw [hi] at cj hin ht
  obtain ⟨bN, oN, rfl, hbN, hcN⟩ := HG.out.1.nodes.cells (by have := HN.out.1; unfold Gr.n at this; omega)
  obtain ⟨AF, cF, e0, e1, hvF⟩ := hcN i (by have := HN.out.1; unfold Gr.n at this; omega)
  have hfa : (g.nodes.getD i nod0) = g.at i := rfl
  rw [hfa] at e0 e1 hvF
  have hpm : ∀ v ∈ (g.at i).fs, v.K = 3 → 0 ≤ v.r ∧ v.r < k := fun v hv h3 => by
    have := (HG.out.2.2.2.2 _ (at_mem (by have := HN.out.1; omega)) v hv).2.2 h3
    rw [HN.out.1] at this
    exact this
  obtain ⟨K, hKe⟩ : ∃ K, (g.at i).K = K := ⟨_, rfl⟩
  obtain ⟨fs, hfs⟩ : ∃ fs, (g.at i).fs = fs := ⟨_, rfl⟩
  have hnr : nodeR g R i = ⟨K, fs.map (plainR R)⟩ := by unfold nodeR; rw [hKe, hfs]
  rw [hnr] at ht
  rw [hKe] at e0
  have hsl2 := HSL.out.2.2 i (by have := HN.out.1; omega)
  rw [hfs] at e1 hvF hpm hsl2
  have hfc := hvF.nc
  have hfm := hvF.cap
  obtain ⟨mF, hmF⟩ : ∃ mF, fs.length = mF := ⟨_, rfl⟩
  rw [hmF] at e1 hfc hsl2
  have cN0 := (hKw.cell (p := ⟨bN, _, none⟩) hbN (by simp)).trans e0
  have cN1 := (hKw.cell (p := ⟨bN, _, none⟩) hbN (by simp)).trans e1
  have cb := ((H7.out.2.1.keep hK (by simp; omega)).cell 0).trans (show _ = some (Value.slice (some ⟨bN, oN, none⟩) k c0) from rfl)
  have hjI : (j : Int) < R.length := by omega
  have hiI : (i : Int) < k := by omega
  have hkx : Keep [] wr (wr.alloc (.cells #[.int .i64 K, .slice none 0 0] 33)) := Keep.alloc _ _
  have hbx := Blk.new wr 33 #[.int .i64 K, .slice none 0 0]
  obtain ⟨w8, hw8⟩ : ∃ w8, w8 = wr.alloc (.cells #[.int .i64 K, .slice none 0 0] 33) := ⟨_, rfl⟩
  rw [← hw8] at hkx hbx
  have hbl : bN < wr.heap.size := Nat.lt_of_lt_of_le hbN hKw.size
  have cbx := (hkx.cell (p := ⟨w.heap.size, 0, none⟩) (by show w.heap.size < _; have := hKw.size; have := (World.block_lt_of_cell? wr _ cb); exact this) (by simp)).trans cb
  have cNx := (hkx.cell (p := ⟨bN, _, none⟩) hbl (by simp)).trans cN1
  have HV := Lib.hid (And.intro hvF (And.intro hmF hpm))
  have H8 := Lib.hid (And.intro hbo (And.intro hno (And.intro hK (And.intro hkx hbx))))
  have hz8 : w8.heap.size = wr.heap.size + 1 := by rw [hw8]; simp
  clear hcR cj0 hmem hi hcN e0 e1 hfa hnr hKe hfs hbo hno hkx hbx hvF hpm
  rw [hw8] at cbx cNx
  go_wp2
  rw [← hw8]
  obtain ⟨X, hX⟩ : ∃ X, wr.heap.size = X := ⟨_, rfl⟩
  have HXO := Lib.hid (show O + 1 ≤ X by have := H8.out.2.2.1.size; omega)
  rw [hX] at H8 hz8 hbl ⊢
  have HKW := Lib.hid hKw
  have HX := Lib.hid hX
  clear hw8 hX cbx cNx cN0 cN1 cb cj hKw
  go_loopw [72] (fun x wx => ∃ (q : Nat) (vf : Value), q ≤ mF ∧ x = .int .i64 q ∧ Blk wx X 33 #[.int .i64 K, vf] ∧ wx.ownsRow (X + 1) 36 5 vf q (rowV ((fs.take q).map (plainR R))) ∧ Keep [X] w8 wx) (fun x _ => mF - (RowKit.intOf x).toNat)
  case atStart => exact ⟨0, _, by omega, rfl, H8.out.2.2.2.2, ⟨rfl, Or.inl ⟨rfl, rfl⟩⟩, Keep.refl _ _⟩
  case round =>
  obtain ⟨q, vf, hq, rfl, hbx, how, hKx⟩ := hrel
  have hKw8 : Keep [] w w8 := HKW.out.trans H8.out.2.2.2.1
  have hwX : w.heap.size ≤ X := by have := HXO.out; omega
  have hKy : Keep [] w wr := hKw8.since hKx (by simpa using hwX)
  by_cases hqt : q < mF
  case neg =>
    obtain rfl : q = mF := by omega
    rw [show fs.take q = fs by rw [← HV.out.2.1]; exact List.take_length] at how
    obtain ⟨A5, c5, rfl⟩ := owns_sl how
    obtain ⟨vs, on1, of1⟩ := H8.out.2.1
    have hlL : ((R.take j).map (nodeR g R)).length = j := by rw [List.length_map, List.length_take]; omega
    obtain ⟨LL, hLL⟩ : ∃ LL, (R.take j).map (nodeR g R) = LL := ⟨_, rfl⟩
    rw [hLL] at ht hlL on1 of1
    rw [hlL] at on1 of1
    have hbO := (H8.out.1.keep H8.out.2.2.2.1 (by simp)).keep hKx (by have := HXO.out; simp; omega)
    have hNe : ∀ {t n s v xs}, World.ownsRow _ (O + 1) t s v n xs → wr.ownsRow (O + 1) t s v n xs := fun {t n s v xs} (h1 : World.ownsRow _ (O + 1) t s v n xs) => owns_keepO (owns_kept h1 H8.out.2.2.2.1) hKx (fun g hg hm => by
      have := (h1.lt g hg).2
      have h2 := HX.out
      rw [List.mem_singleton] at hm
      omega)
    have on2 := hNe on1
    have of2 := fun i hi => hNe (of1 i hi)
    have hKO : Keep [O] w7 wr := (H8.out.2.2.1.trans H8.out.2.2.2.1.of_nil).later hKx (by
      intro x hx
      rw [List.mem_singleton] at hx
      subst hx
      have := HXO.out
      exact Or.inl (by omega))
    have o0 := (hbO.cell 0).trans (show _ = some v0 from rfl)
    have xx0 := (hbx.cell 0).trans (show _ = some (Value.int .i64 K) from rfl)
    have xx1 := (hbx.cell 1).trans (show _ = some (Value.slice A5 q c5) from rfl)
    have hfo := owns_mono how (show O + 1 ≤ X + 1 by have := HXO.out; omega)
    have kal : Keep [] wr (wr.alloc (.cells #[.int .i64 K, .slice A5 q c5] 33)) := Keep.alloc _ _
    have HNW := Lib.hid (two_new7 wr K (.slice A5 q c5) 33)
    have HO := Lib.hid (owns_kept on2 kal)
    have H12 := Lib.hid (And.intro (hbO.keep kal (by simp)) (And.intro (fun i hi => owns_kept (of2 i hi) kal) (And.intro (owns_kept hfo kal) (hKO.trans kal.of_nil))))
    have hsO : O + 1 ≤ wr.heap.size := by have := hKO.size; omega
    clear how on1 of1 hbO hNe on2 of2 hKO hfo kal hbx hKx hKw8 hKy
    obtain ⟨ii, hii, hi0, hi1, hi2⟩ := info_of nodparts
    go_wp2_with (at_builtin; refine wpList_append_own_at _ rfl (.tmp 94) (.tmp 96) 22 rfl (O + 1) 33 ii (.agg #[.int .i64 0, .slice none 0 0]) 2 32 Tryd.underlying22 hii hi0 hi1 hi2 rfl (by omega) v0 j (nodC j (fun i => (LL.getD i nod0).K) vs) rfl HO.out ⟨wr.heap.size, 0, none⟩ 1 1 [.int .i64 K, .slice A5 q c5] rfl ?c1 HNW.out ?c3 ?c4 ?c5 ?c6 ?_)
    case c1 => rfl
    case c3 => intro z hz; simp at hz; rcases hz with rfl | rfl <;> rfl
    case c4 => unfold maxLen; omega
    case c5 => omega
    case c6 => first | omega | (simp; omega)
    intro v' w'' hown2 hgrow _ _
    have hb5 := grown_blk H12.out.1 (by omega) HO.out hgrow
    have hnt : (36 : TypeId) ≠ 33 := by decide
    have hk5 : Keep [O] w7 w'' := H12.out.2.2.2.later (own' := v0.ownBlock.toList) (Keep.grown hgrow (fun k _ e => by rw [e]; simp)) (fun x hx => by
      have := (HO.out.lt x (by simpa using hx)).1
      exact Or.inl (by omega))
    have hn5 : NodOwn w'' (O + 1) 33 36 v' (LL ++ [⟨K, fs.map (plainR R)⟩]) := NodOwn.snoc (vs := vs) hlL hown2 (fun i hi => World.ownsRow.kept (H12.out.2.1 i hi) hgrow (owns_apart hnt (H12.out.2.1 i hi) HO.out)) (by
      have hk := World.ownsRow.kept H12.out.2.2.1 hgrow (owns_apart hnt H12.out.2.2.1 HO.out)
      rw [List.length_map, HV.out.2.1]
      exact hk)
    obtain ⟨A9, c9, rfl⟩ := owns_sl hown2
    have og0 := (hb5.cell 0).trans (show _ = some v0 from rfl)
    have fg0 := hb5.frozen 0
    have H6 := Lib.hid (And.intro (hb5.set_ 0 (.slice A9 (j + 1) c9)) (And.intro (hn5.set (a := ⟨O, 0, none⟩) (by show O < O + 1; omega) (.slice A9 (j + 1) c9)) (hk5.trans (Keep.setCell (own := [O]) w'' ⟨O, 0, none⟩ (by simp) (.slice A9 (j + 1) c9)))))
    rw [← ht] at H6
    clear hown2 hb5 hk5 hn5 hgrow
    go_wp2
    go_roundw
    case rel => exact ⟨j + 1, .slice A9 (j + 1) c9, by omega, by go_num, H6.out.1, H6.out.2.1, H6.out.2.2⟩
    case measure => simp [RowKit.intOf]; omega
  obtain ⟨bF, oF, rfl, hbF, hcF⟩ := HV.out.1.cells (by rw [HV.out.2.1]; omega)
  obtain ⟨q0, q1, q2, q3, q4⟩ := hcF q (by rw [HV.out.2.1]; exact hqt)
  have d0 := (hKy.cell (p := ⟨bF, _, none⟩) hbF (by simp)).trans q0
  have d1 := (hKy.cell (p := ⟨bF, _, none⟩) hbF (by simp)).trans q1
  have d2 := (hKy.cell (p := ⟨bF, _, none⟩) hbF (by simp)).trans q2
  have d3 := (hKy.cell (p := ⟨bF, _, none⟩) hbF (by simp)).trans q3
  have d4 := (hKy.cell (p := ⟨bF, _, none⟩) hbF (by simp)).trans q4
  have hqf : q < fs.length := by rw [HV.out.2.1]; exact hqt
  have hft : (fs.take (q + 1)).map (plainR R) = (fs.take q).map (plainR R) ++ [plainR R (fs.getD q z0)] := by
    have e2 : fs.take (q + 1) = fs.take q ++ [fs.getD q z0] := by
      rw [List.take_add_one, List.getD_eq_getElem?_getD, List.getElem?_eq_getElem hqf]
      rfl
    rw [e2, List.map_append]
    rfl
  have hvm : fs.getD q z0 ∈ fs := by rw [List.getD_eq_getElem?_getD, List.getElem?_eq_getElem hqf]; exact List.getElem_mem hqf
  have hvr := HV.out.2.2 _ hvm
  obtain ⟨V, hV⟩ : ∃ V, fs.getD q z0 = V := ⟨_, rfl⟩
  rw [hV] at d0 d1 d2 d3 d4 hft hvr
  obtain ⟨x0, x1, x2, x3, x4⟩ := V
  dsimp only at d0 d1 d2 d3 d4 hvr
  have hqI : (q : Int) < mF := by omega
  have ka : Keep [] wr (wr.alloc (.cells #[.int .i64 x0, .int .i64 x1, .int .u64 x2, .int .u64 x3, .int .i64 x4] 36)) := Keep.alloc _ _
  have hbv := Blk.new wr 36 #[.int .i64 x0, .int .i64 x1, .int .u64 x2, .int .u64 x3, .int .i64 x4]
  have H9 := Lib.hid (And.intro (hbx.keep ka (by simp)) (And.intro (owns_kept how ka) (And.intro (hKx.trans ka.of_nil) hbv)))
  have hXV : X < wr.heap.size := hbx.lt
  have hlv := fun g hg => (how.lt g hg).2
  clear hbx how hKx ka hbv hcF q0 q1 q2 q3 q4 hV hvm hKw8 hKy
  go_wp2_with fail
  (with_reducible refine (rplain_v x0 x1 x2 x3 x4 _).mono ?_)
  rintro e w9 ⟨rfl, k9⟩
  have hP0 := plainV_K ⟨x0, x1, x2, x3, x4⟩
  have hP4 : x0 = 3 → plainV ⟨x0, x1, x2, x3, x4⟩ = ⟨3, 0, 0, 0, x4⟩ := fun h => by subst h; rfl
  have hP5 : ¬ x0 = 3 → plainR R ⟨x0, x1, x2, x3, x4⟩ = plainV ⟨x0, x1, x2, x3, x4⟩ := fun h => if_neg h
  have hP6 : x0 = 3 → plainR R ⟨x0, x1, x2, x3, x4⟩ = ⟨3, 0, 0, 0, place R x4⟩ := fun h => if_pos h
  obtain ⟨P, hP⟩ : ∃ P, plainV ⟨x0, x1, x2, x3, x4⟩ = P := ⟨_, rfl⟩
  rw [hP] at hP0 hP4 hP5 ⊢
  obtain ⟨p0, p1, p2, p3, p4⟩ := P
  dsimp only at hP0 ⊢
  obtain rfl : x0 = p0 := hP0.symm
  obtain ⟨V, hV⟩ : ∃ V, wr.heap.size = V := ⟨_, rfl⟩
  have hb9 := H9.out.2.2.2.keep k9 (by simp)
  have hx9 := H9.out.1.keep k9 (by simp)
  have ho9 := owns_kept H9.out.2.1 k9
  have hk9 := H9.out.2.2.1.trans k9.of_nil
  rw [hV] at hb9 hXV ⊢
  have z0 := (hb9.cell 0).trans (show _ = some (Value.int .i64 x0) from rfl)
  have z1 := (hb9.cell 1).trans (show _ = some (Value.int .i64 x1) from rfl)
  have z2 := (hb9.cell 2).trans (show _ = some (Value.int .u64 x2) from rfl)
  have z3 := (hb9.cell 3).trans (show _ = some (Value.int .u64 x3) from rfl)
  have z4 := (hb9.cell 4).trans (show _ = some (Value.int .i64 x4) from rfl)
  have f0 := hb9.frozen 0
  have f1 := hb9.frozen 1
  have f2 := hb9.frozen 2
  have f3 := hb9.frozen 3
  have f4 := hb9.frozen 4
  have H10 := Lib.hid (And.intro hb9 (And.intro hx9 (And.intro ho9 hk9)))
  clear d0 d1 d2 d3 d4 hP k9 hb9 hx9 ho9 hk9
  go_upto_region 24 with fail
  have hb10 := Blk.set5 H10.out.1 (.int .i64 x0) (.int .i64 p1) (.int .u64 p2) (.int .u64 p3) (.int .i64 p4)
  obtain ⟨wv, hwv⟩ : ∃ wv, wv = (((((w9.setCell ⟨V, 0, none⟩ (.int .i64 x0)).setCell ⟨V, 1, none⟩ (.int .i64 p1)).setCell ⟨V, 2, none⟩ (.int .u64 p2)).setCell ⟨V, 3, none⟩ (.int .u64 p3)).setCell ⟨V, 4, none⟩ (.int .i64 p4)) := ⟨_, rfl⟩
  rw [← hwv] at hb10 ⊢
  have k10 : Keep [V] w9 wv := by
    rw [hwv]
    exact ((((Keep.setCell _ _ (by simp) _).trans (Keep.setCell _ _ (by simp) _)).trans (Keep.setCell _ _ (by simp) _)).trans (Keep.setCell _ _ (by simp) _)).trans (Keep.setCell _ _ (by simp) _)
  have hVo : ∀ g, vf.ownBlock = some g → g ∉ [V] := fun g hg hm => by
    have := hlv g hg
    rw [List.mem_singleton] at hm
    omega
  have H11 := Lib.hid (And.intro hb10 (And.intro (H10.out.2.1.keep k10 (by simp; omega)) (And.intro (owns_keepO H10.out.2.2.1 k10 hVo) (And.intro (H10.out.2.2.2.later k10 (by simp; omega)) hVo))))
  clear hb10 k10 hVo hwv H10 H9 hlv z0 z1 z2 z3 z4 f0 f1 f2 f3 f4 hV
  have z0 := (H11.out.1.cell 0).trans (show _ = some (Value.int .i64 x0) from rfl)
  by_cases h3 : x0 = 3
  · subst h3
    have e9 := hP4 rfl
    obtain ⟨_, rfl, rfl, rfl, rfl⟩ := Val.mk.inj e9
    obtain ⟨r, rfl⟩ : ∃ r : Nat, p4 = r := ⟨p4.toNat, by have := hvr rfl; omega⟩
    have hrk : r < k := by have := hvr rfl; omega
    have z4 := (H11.out.1.cell 4).trans (show _ = some (Value.int .i64 (r : Nat)) from rfl)
    have f4 := H11.out.1.frozen 4
    have cS := (((H7.out.2.2.2.2.1.keep H8.out.2.2.1 (by simp; omega)).keep H8.out.2.2.2.1 (by simp)).keep H11.out.2.2.2.1 (by have := HXO.out; simp; omega)).cell hrk
    have hpl := rplace_at w3.heap.size 0 k k r (place R (r : Nat)) hrk wv (by rw [Nat.zero_add]; exact cS)
    have HR := Lib.hid (hP6 rfl)
    have h11b := H11.out.1.set_ 4 (.int .i64 (place R (r : Nat)))
    clear cS hP0 hP4 hP5 hP6
    go_upto_region 25 with fail
    go_wp2_with fail
    (with_reducible refine hpl.mono ?_)
    rintro e wy ⟨rfl, rfl⟩
    go_upto_region 26 with fail
    have k11 : Keep [V] wv (wv.setCell ⟨V, 4, none⟩ (.int .i64 (place R (r : Nat)))) := Keep.setCell _ _ (by simp) _
    have HV5 := Lib.hid (And.intro (show Blk (wv.setCell ⟨V, 4, none⟩ (.int .i64 (place R (r : Nat)))) V 36 #[.int .i64 3, .int .i64 0, .int .u64 0, .int .u64 0, .int .i64 (place R (r : Nat))] from h11b) (And.intro (H11.out.2.1.keep k11 (by simp; omega)) (And.intro (owns_keepO H11.out.2.2.1 k11 H11.out.2.2.2.2) (And.intro (H11.out.2.2.2.1.later k11 (by simp; omega)) H11.out.2.2.2.2))))
    obtain ⟨wz, hwz⟩ : ∃ wz, wz = wv.setCell ⟨V, 4, none⟩ (.int .i64 (place R (r : Nat))) := ⟨_, rfl⟩
    rw [← hwz] at HV5 ⊢
    clear H11 z0 z4 f4 h11b k11 hwz hpl
    generalize place R (r : Nat) = y4 at *
    obtain ⟨LL, hLL⟩ : ∃ LL, (fs.take q).map (plainR R) = LL := ⟨_, rfl⟩
    rw [hLL] at hft HV5
    have z0 := (HV5.out.1.cell 0).trans (show _ = some (Value.int .i64 3) from rfl)
    have z1 := (HV5.out.1.cell 1).trans (show _ = some (Value.int .i64 0) from rfl)
    have z2 := (HV5.out.1.cell 2).trans (show _ = some (Value.int .u64 0) from rfl)
    have z3 := (HV5.out.1.cell 3).trans (show _ = some (Value.int .u64 0) from rfl)
    have z4 := (HV5.out.1.cell 4).trans (show _ = some (Value.int .i64 y4) from rfl)
    have xf1 := (HV5.out.2.1.cell 1).trans (show _ = some vf from rfl)
    have HNW := Lib.hid (five_new wz 3 0 0 0 y4 36)
    have HO := Lib.hid (owns_kept HV5.out.2.2.1 (show Keep [] wz (wz.alloc (.cells #[.int .i64 3, .int .i64 0, .int .u64 0, .int .u64 0, .int .i64 y4] 36)) from Keep.alloc _ _))
    have hsX := HV5.out.2.2.2.1.size
    obtain ⟨ii, hii, hi0, hi1, hi2⟩ := info_of valpart5
    go_wp2_with (at_builtin; refine wpList_append_own_at _ rfl (.tmp 87) (.tmp 89) 31 rfl (X + 1) 36 ii (.agg #[.int .i64 0, .int .i64 0, .int .u64 0, .int .u64 0, .int .i64 0]) 5 40 Tryd.underlying31 hii hi0 hi1 hi2 rfl (by omega) vf q (rowV LL) rfl HO.out ⟨wz.heap.size, 0, none⟩ 1 1 (cellsV ⟨3, 0, 0, 0, y4⟩) rfl ?c1 HNW.out ?c3 ?c4 ?c5 ?c6 ?_)
    case c1 => rfl
    case c3 => intro z hz; simp [cellsV] at hz; rcases hz with rfl | rfl | rfl | rfl | rfl <;> rfl
    case c4 => unfold maxLen; omega
    case c5 => omega
    case c6 => first | omega | (simp; omega)
    intro v' w'' hown2 hgrow _ _
    have hx5 := grown_blk (HV5.out.2.1.keep (Keep.alloc (own := []) _ _) (by simp)) (by omega) HO.out hgrow
    have hk5 : Keep [X] w8 w'' := by
      refine (HV5.out.2.2.2.1.trans (Keep.alloc _ (.cells #[.int .i64 3, .int .i64 0, .int .u64 0, .int .u64 0, .int .i64 y4] 36))).later (own' := vf.ownBlock.toList) (Keep.grown hgrow (fun k _ e => by rw [e]; simp)) (fun x hx => ?_)
      have := (HO.out.lt x (by simpa using hx)).1
      omega
    have xg1 := (hx5.cell 1).trans (show _ = some vf from rfl)
    have fg1 := hx5.frozen 1
    have hown3 : w''.ownsRow (X + 1) 36 5 v' (q + 1) (rowV ((fs.take (q + 1)).map (plainR R))) := by
      rw [hft, rowV_snoc, HR.out]
      exact hown2
    obtain ⟨A9, c9, rfl⟩ := owns_sl hown3
    have H6 := Lib.hid (And.intro (hx5.set_ 1 (.slice A9 (q + 1) c9)) (And.intro (ownsRow_setCell_below hown3 (a := ⟨X, 1, none⟩) (by show X < X + 1; omega) (.slice A9 (q + 1) c9)) (hk5.trans (Keep.setCell (own := [X]) w'' ⟨X, 1, none⟩ (by simp) (.slice A9 (q + 1) c9)))))
    clear hown2 hown3 hx5 hk5 hgrow
    go_wp2
    go_roundw
    case rel => exact ⟨q + 1, .slice A9 (q + 1) c9, by omega, by go_num, H6.out.1, H6.out.2.1, H6.out.2.2⟩
    case measure => simp [RowKit.intOf]; omega
  · have h3' : (x0 == 3) = false := by simpa using h3
    have HR := Lib.hid (hP5 h3)
    clear hP4 hP5 hP6
    go_upto_region 26 with fail
    have HV5 := H11
    clear H11 z0
    obtain ⟨LL, hLL⟩ : ∃ LL, (fs.take q).map (plainR R) = LL := ⟨_, rfl⟩
    rw [hLL] at hft HV5
    have z0 := (HV5.out.1.cell 0).trans (show _ = some (Value.int .i64 x0) from rfl)
    have z1 := (HV5.out.1.cell 1).trans (show _ = some (Value.int .i64 p1) from rfl)
    have z2 := (HV5.out.1.cell 2).trans (show _ = some (Value.int .u64 p2) from rfl)
    have z3 := (HV5.out.1.cell 3).trans (show _ = some (Value.int .u64 p3) from rfl)
    have z4 := (HV5.out.1.cell 4).trans (show _ = some (Value.int .i64 p4) from rfl)
    have xf1 := (HV5.out.2.1.cell 1).trans (show _ = some vf from rfl)
    have HNW := Lib.hid (five_new wv x0 p1 p2 p3 p4 36)
    have HO := Lib.hid (owns_kept HV5.out.2.2.1 (show Keep [] wv (wv.alloc (.cells #[.int .i64 x0, .int .i64 p1, .int .u64 p2, .int .u64 p3, .int .i64 p4] 36)) from Keep.alloc _ _))
    have hsX := HV5.out.2.2.2.1.size
    obtain ⟨ii, hii, hi0, hi1, hi2⟩ := info_of valpart5
    go_wp2_with (at_builtin; refine wpList_append_own_at _ rfl (.tmp 87) (.tmp 89) 31 rfl (X + 1) 36 ii (.agg #[.int .i64 0, .int .i64 0, .int .u64 0, .int .u64 0, .int .i64 0]) 5 40 Tryd.underlying31 hii hi0 hi1 hi2 rfl (by omega) vf q (rowV LL) rfl HO.out ⟨wv.heap.size, 0, none⟩ 1 1 (cellsV ⟨x0, p1, p2, p3, p4⟩) rfl ?c1 HNW.out ?c3 ?c4 ?c5 ?c6 ?_)
    case c1 => rfl
    case c3 => intro z hz; simp [cellsV] at hz; rcases hz with rfl | rfl | rfl | rfl | rfl <;> rfl
    case c4 => unfold maxLen; omega
    case c5 => omega
    case c6 => first | omega | (simp; omega)
    intro v' w'' hown2 hgrow _ _
    have hx5 := grown_blk (HV5.out.2.1.keep (Keep.alloc (own := []) _ _) (by simp)) (by omega) HO.out hgrow
    have hk5 : Keep [X] w8 w'' := by
      refine (HV5.out.2.2.2.1.trans (Keep.alloc _ (.cells #[.int .i64 x0, .int .i64 p1, .int .u64 p2, .int .u64 p3, .int .i64 p4] 36))).later (own' := vf.ownBlock.toList) (Keep.grown hgrow (fun k _ e => by rw [e]; simp)) (fun x hx => ?_)
      have := (HO.out.lt x (by simpa using hx)).1
      omega
    have xg1 := (hx5.cell 1).trans (show _ = some vf from rfl)
    have fg1 := hx5.frozen 1
    have hown3 : w''.ownsRow (X + 1) 36 5 v' (q + 1) (rowV ((fs.take (q + 1)).map (plainR R))) := by
      rw [hft, rowV_snoc, HR.out]
      exact hown2
    obtain ⟨A9, c9, rfl⟩ := owns_sl hown3
    have H6 := Lib.hid (And.intro (hx5.set_ 1 (.slice A9 (q + 1) c9)) (And.intro (ownsRow_setCell_below hown3 (a := ⟨X, 1, none⟩) (by show X < X + 1; omega) (.slice A9 (q + 1) c9)) (hk5.trans (Keep.setCell (own := [X]) w'' ⟨X, 1, none⟩ (by simp) (.slice A9 (q + 1) c9)))))
    clear hown2 hown3 hx5 hk5 hgrow
    go_wp2
    go_roundw
    case rel => exact ⟨q + 1, .slice A9 (q + 1) c9, by omega, by go_num, H6.out.1, H6.out.2.1, H6.out.2.2⟩
    case measure => simp [RowKit.intOf]; omega
end Go.Proofs.YtigclopkoolocaaDoor
