/-
  Graphs as plain data: what stage 12's laws lean on: alike; the nodes turned; one more node; two side by side; more nodes; a chain. No program is named here. Each theorem bears its own conditions.
-/
import Derived.Test.YtigclopkoolocaaDoorGrm2
namespace Go.Flo
open Go.RowKit Go.Proofs.YtigclopkoolocaaDoor

theorem range_len {n : Nat} {R : List Nat} (h : Fine n R) (ha : ∀ i, i < n → i ∈ R) : R.length = n := by
  refine Nat.le_antisymm h.len ?_
  have hk : ∀ k, k ≤ n → ∀ R : List Nat, R.Nodup → (∀ i, i < k → i ∈ R) → k ≤ R.length := by
    intro k
    induction k with
    | zero => intro _ _ _ _; omega
    | succ k ih =>
      intro hkn R hR hm
      have h1 := ih (by omega) (R.erase k) (hR.erase k) (fun i hi => (hR.mem_erase_iff).2 ⟨by omega, hm i (by omega)⟩)
      have h2 : k ∈ R := hm k (by omega)
      have h3 : (R.erase k).length = R.length - 1 := List.length_erase_of_mem h2
      have h4 : 0 < R.length := List.length_pos_of_mem h2
      omega
  exact hk n (Nat.le_refl _) R h.1 ha

/-- How many of so many numbers are in a row. -/
def cntR (R : List Nat) : Nat → Nat
  | 0 => 0
  | k + 1 => cntR R k + if k ∈ R then 1 else 0

theorem cntR_len {n : Nat} {R : List Nat} (h : Fine n R) : cntR R n = R.length := by
  have key : ∀ k, ∀ R : List Nat, R.Nodup → cntR R k = (R.filter fun i => decide (i < k)).length := by
    intro k
    induction k with
    | zero => intro R _; rw [List.filter_eq_nil_iff.2 (by simp)]; rfl
    | succ k ih =>
      intro R hR
      have h1 : ∀ R : List Nat, R.Nodup → (R.filter fun i => decide (i < k + 1)).length = (R.filter fun i => decide (i < k)).length + if k ∈ R then 1 else 0 := by
        intro R
        induction R with
        | nil => intro _; rfl
        | cons a R ih2 =>
          intro hR
          have h2 := List.nodup_cons.1 hR
          have h3 := ih2 h2.2
          rw [List.filter_cons, List.filter_cons]
          by_cases e : a = k
          · subst e
            simp only [Nat.lt_succ_self, decide_true, if_true, Nat.lt_irrefl, decide_false, List.length_cons, List.mem_cons, true_or]
            rw [h3, if_neg h2.1]
            rfl
          · have e3 : (k ∈ a :: R) ↔ k ∈ R := by
              rw [List.mem_cons]
              exact ⟨fun x => x.elim (fun y => absurd y.symm e) id, Or.inr⟩
            by_cases e4 : a < k
            · have e5 : a < k + 1 := by omega
              simp only [e4, e5, decide_true, if_true, List.length_cons, e3]
              omega
            · have e5 : ¬ a < k + 1 := by omega
              simp only [e4, e5, decide_false, e3]
              exact h3
      show cntR R k + _ = _
      rw [ih R hR, h1 R hR]
  rw [key n R h.1]
  have : (R.filter fun i => decide (i < n)) = R := List.filter_eq_self.2 fun i hi => by simpa using h.2 i hi
  rw [this]

/-- Are both, trimmed, the same? -/
def AlikeG (g h : Gr) : Prop := MayG g ∧ MayG h ∧ trimG g = trimG h

/-- Node by node, value by value. -/
def SameG (a b : Gr) : Prop := a.n = b.n ∧ a.roots = b.roots ∧ a.weaks = b.weaks ∧ ∀ i, i < a.n → (a.at i).K = (b.at i).K ∧ (a.at i).fs.length = (b.at i).fs.length ∧ ∀ j, j < (a.at i).fs.length → sameV ((a.at i).fs.getD j z0) ((b.at i).fs.getD j z0) = true

theorem SameG.refl {g : Gr} (h : MayG g) : SameG g g := ⟨rfl, rfl, rfl, fun i hi => ⟨rfl, rfl, fun j hj => by
  have hm := h.2.2.2 _ (at_mem hi) ((g.at i).fs.getD j z0) (by rw [List.getD_eq_getElem?_getD, List.getElem?_eq_getElem hj]; exact List.getElem_mem hj)
  refine sameV_self ?_
  unfold MayV at hm
  unfold Kind4
  omega⟩⟩

theorem at_eq {g : Gr} {i : Nat} (h : i < g.nodes.length) : g.at i = g.nodes[i] := by unfold Gr.at; rw [List.getD_eq_getElem?_getD, List.getElem?_eq_getElem h]; rfl

/-- Of plain graphs that may be, the same node by node is the same. -/
theorem SameG.eq {a b : Gr} (ha : MayG a) (pa : ∀ x ∈ a.nodes, ∀ v ∈ x.fs, plainV v = v) (pb : ∀ x ∈ b.nodes, ∀ v ∈ x.fs, plainV v = v) (h : SameG a b) : a = b := by
  obtain ⟨h1, h2, h3, h4⟩ := h
  have hn : a.nodes = b.nodes := by
    apply List.ext_getElem h1
    intro i hi hi'
    obtain ⟨k1, k2, k3⟩ := h4 i hi
    have xa : a.nodes[i] ∈ a.nodes := List.getElem_mem hi
    have xb : b.nodes[i] ∈ b.nodes := List.getElem_mem hi'
    have ma := ha.2.2.2 _ xa
    have pa := pa _ xa
    have pb := pb _ xb
    rw [at_eq hi, at_eq hi'] at k1 k2 k3
    generalize a.nodes[i] = x at *
    generalize b.nodes[i] = y at *
    obtain ⟨xK, xf⟩ := x
    obtain ⟨yK, yf⟩ := y
    dsimp only at *
    subst k1
    congr 1
    apply List.ext_getElem k2
    intro j hj hj'
    have := k3 j hj
    rw [List.getD_eq_getElem?_getD, List.getD_eq_getElem?_getD, List.getElem?_eq_getElem hj, List.getElem?_eq_getElem hj'] at this
    simp only [Option.getD_some] at this
    have hm := ma _ (List.getElem_mem hj)
    rw [sameV_iff (by unfold MayV at hm; unfold Kind4; omega), pa _ (List.getElem_mem hj), pb _ (List.getElem_mem hj')] at this
    exact this
  obtain ⟨an, ar, aw⟩ := a
  obtain ⟨bn, br, bw⟩ := b
  dsimp only at *
  subst hn h2 h3
  rfl

theorem trimG_plain (g : Gr) : ∀ x ∈ (trimG g).nodes, ∀ v ∈ x.fs, plainV v = v := trim_plain g _

theorem same_trim {g h : Gr} (hg : MayG g) : SameG (trimG g) (trimG h) ↔ trimG g = trimG h :=
  ⟨fun e => e.eq (trim_may hg) (trimG_plain g) (trimG_plain h), fun e => e ▸ SameG.refl (trim_may hg)⟩

theorem alike_trim {g : Gr} (h : MayG g) : AlikeG g (trimG g) := ⟨h, trim_may h, (trim_trim h).symm⟩

/-- Nodes in another order. -/
def turnN (n b i : Nat) : Nat := (i + b) % n
def turnG (g : Gr) (b : Nat) : Gr :=
  ⟨(List.range g.n).map (fun k => ⟨(g.at ((k + (g.n - b)) % g.n)).K, (g.at ((k + (g.n - b)) % g.n)).fs.map fun v => plainV (mapV (turnN g.n b) v)⟩), g.roots.map (mapI (turnN g.n b)), g.weaks.map (mapI (turnN g.n b))⟩

theorem turnN_inj {n b i j : Nat} (hb : b < n) (hi : i < n) (hj : j < n) (h : turnN n b i = turnN n b j) : i = j := by
  unfold turnN at h
  rcases Nat.lt_or_ge (i + b) n with h1 | h1 <;> rcases Nat.lt_or_ge (j + b) n with h2 | h2
  · rw [Nat.mod_eq_of_lt h1, Nat.mod_eq_of_lt h2] at h; omega
  · rw [Nat.mod_eq_of_lt h1, Nat.mod_eq_sub_mod h2, Nat.mod_eq_of_lt (by omega)] at h; omega
  · rw [Nat.mod_eq_of_lt h2, Nat.mod_eq_sub_mod h1, Nat.mod_eq_of_lt (by omega)] at h; omega
  · rw [Nat.mod_eq_sub_mod h1, Nat.mod_eq_of_lt (by omega), Nat.mod_eq_sub_mod h2, Nat.mod_eq_of_lt (by omega)] at h; omega

theorem turn_back {n b i : Nat} (hb : b < n) (hi : i < n) : (turnN n b i + (n - b)) % n = i := by
  unfold turnN
  rcases Nat.lt_or_ge (i + b) n with h1 | h1
  · rw [Nat.mod_eq_of_lt h1, show i + b + (n - b) = i + n by omega, Nat.add_mod_right, Nat.mod_eq_of_lt hi]
  · rw [Nat.mod_eq_sub_mod h1, Nat.mod_eq_of_lt (show i + b - n < n by omega), show i + b - n + (n - b) = i by omega, Nat.mod_eq_of_lt hi]

theorem turnG_n (g : Gr) (b : Nat) : (turnG g b).n = g.n := by unfold turnG Gr.n; simp

theorem turn_trim {g : Gr} {b : Nat} (h : MayG g) (hb : b < g.n) : trimG (turnG g b) = trimG g := by
  have hn := turnG_n g b
  have hat : ∀ i, i < g.n → (turnG g b).at (turnN g.n b i) = ⟨(g.at i).K, (g.at i).fs.map fun v => plainV (mapV (turnN g.n b) v)⟩ := by
    intro i hi
    have hl : turnN g.n b i < g.n := Nat.mod_lt _ (by omega)
    have := turn_back hb hi
    unfold turnG
    show (List.map _ (List.range g.n)).getD _ _ = _
    rw [List.getD_eq_getElem?_getD]
    simp only [List.getElem?_map, List.getElem?_range hl, Option.map_some, Option.getD_some, this]
  refine (trim_map (s := turnN g.n b) h (fun i hi => by rw [hn]; exact Nat.mod_lt _ (by omega)) (fun i j hi hj e => turnN_inj hb hi hj e) ?_ rfl rfl).1
  intro i hi
  rw [hat i hi]
  refine ⟨rfl, ?_⟩
  rw [List.map_map]
  exact List.map_congr_left fun v _ => plainV_plain _

theorem turn_may {g : Gr} {b : Nat} (h : MayG g) (hb : b < g.n) : MayG (turnG g b) := by
  have hn := turnG_n g b
  have hI : ∀ r, MayI g.n r → MayI g.n (mapI (turnN g.n b) r) := by
    intro r hr
    unfold MayI at *
    unfold mapI
    split
    · omega
    · have : turnN g.n b r.toNat < g.n := Nat.mod_lt _ (by omega)
      omega
  unfold MayG
  rw [hn]
  refine ⟨h.1, ?_, ?_, ?_⟩
  · intro r hr
    obtain ⟨q, hq, rfl⟩ := List.mem_map.1 hr
    exact hI q (h.2.1 q hq)
  · intro r hr
    obtain ⟨q, hq, rfl⟩ := List.mem_map.1 hr
    exact hI q (h.2.2.1 q hq)
  · intro x hx v hv
    obtain ⟨k, hk, rfl⟩ := List.mem_map.1 hx
    obtain ⟨u, hu, rfl⟩ := List.mem_map.1 hv
    have hm := h.2.2.2 _ (at_mem (g := g) (Nat.mod_lt _ (by have := List.mem_range.1 hk; omega))) u hu
    unfold MayV at hm ⊢
    rw [plainV_K, mapV_K]
    refine ⟨hm.1, hm.2.1, fun h3 => ?_⟩
    have h4 := hm.2.2 h3
    rw [plainV_r (by rw [mapV_K]; exact h3), mapV_r h3]
    unfold mapI
    rw [if_neg (by omega)]
    have : turnN g.n b u.r.toNat < g.n := Nat.mod_lt _ (by omega)
    omega

theorem mapI_id (r : Int) : mapI id r = r := by unfold mapI; split; rfl; simp only [id]; omega
theorem mapI_ids (l : List Int) : l.map (mapI id) = l := by
  have : l.map (mapI id) = l.map id := List.map_congr_left fun r _ => mapI_id r
  rw [this, List.map_id]
theorem plain_mapV_id (v : Val) : plainV (mapV id v) = plainV v := by
  unfold mapV
  split
  · rename_i e
    rw [mapI_id]
    unfold plainV
    dsimp only
    rw [if_neg (by omega), if_neg (by omega), if_pos rfl, if_neg (by omega), if_neg (by omega), if_pos e]
  · rfl

/-- More nodes behind make no difference. -/
theorem beside_trim {g : Gr} (l : List Nod) (h : MayG g) : trimG ⟨g.nodes ++ l, g.roots, g.weaks⟩ = trimG g := by
  refine (trim_map (g := g) (g' := ⟨g.nodes ++ l, g.roots, g.weaks⟩) (s := id) h (fun i hi => ?_) (fun i j _ _ e => e) ?_ (mapI_ids _).symm (mapI_ids _).symm).1
  · show i < (g.nodes ++ l).length
    rw [List.length_append]
    have : i < g.nodes.length := hi
    omega
  · intro i hi
    have : (⟨g.nodes ++ l, g.roots, g.weaks⟩ : Gr).at i = g.at i := by
      unfold Gr.at
      rw [List.getD_eq_getElem?_getD, List.getD_eq_getElem?_getD, List.getElem?_append_left hi]
    rw [show id i = i from rfl, this]
    exact ⟨rfl, List.map_congr_left fun v _ => (plain_mapV_id v).symm⟩

/-- From more nodes as much or more is reached. -/
theorem order_more (g : Gr) (a b : List Int) {i : Nat} (h : i ∈ orderG g a) : i ∈ orderG g (a ++ b) :=
  orderG_least g a (fun i => i ∈ orderG g (a ++ b)) (fun _ hr h0 h1 => orderG_roots g _ (List.mem_append_left _ hr) h0 h1) (fun _ hi _ hr h0 h1 => orderG_shut g _ hi hr h0 h1) h

/-- From what is reached nothing new. -/
theorem order_again (g : Gr) (a l : List Int) (hl : ∀ r, r ∈ l ↔ 0 ≤ r ∧ r.toNat ∈ orderG g a) {i : Nat} : i ∈ orderG g l ↔ i ∈ orderG g a := by
  constructor
  · exact fun h => orderG_least g l (fun i => i ∈ orderG g a) (fun r hr _ _ => ((hl r).1 hr).2) (fun _ hi _ hr h0 h1 => orderG_shut g _ hi hr h0 h1) h
  · intro h
    have hin := (orderG_fine g a).2 i h
    have := orderG_roots g l (r := (i : Int)) ((hl i).2 ⟨by omega, by simpa using h⟩) (by omega) (by omega)
    simpa using this

/-- Nothing else is needed: each that is reached is one of these, or one that is reached refers to it. -/
theorem order_back (g : Gr) (l : List Int) {i : Nat} (h : i ∈ orderG g l) : (i : Int) ∈ l ∨ ∃ p ∈ orderG g l, (i : Int) ∈ refsOf (g.at p).fs := by
  have := orderG_least g l (fun i => i ∈ orderG g l ∧ ((i : Int) ∈ l ∨ ∃ p ∈ orderG g l, (i : Int) ∈ refsOf (g.at p).fs)) ?_ ?_ h
  · exact this.2
  · intro r hr h0 h1
    refine ⟨orderG_roots g l hr h0 h1, Or.inl ?_⟩
    rwa [Int.toNat_of_nonneg h0]
  · intro p hp r hr h0 h1
    refine ⟨orderG_shut g l hp.1 hr h0 h1, Or.inr ⟨p, hp.1, ?_⟩⟩
    rwa [Int.toNat_of_nonneg h0]

/-- Of a row in which each refers to the next the first reaches all. -/
theorem chain_len {g : Gr} (h : ∀ i, i + 1 < g.n → ((i + 1 : Nat) : Int) ∈ refsOf (g.at i).fs) (h0 : 0 < g.n) : (orderG g [0]).length = g.n := by
  refine range_len (orderG_fine g _) ?_
  intro i
  induction i with
  | zero => intro _; exact orderG_roots g [0] (r := 0) (by simp) (by omega) (by omega)
  | succ i ih =>
    intro hi
    have := orderG_shut g [0] (ih (by omega)) (h i hi) (by omega) (by omega)
    simpa using this

/-- Roots' nodes stand in the order of the roots. -/
theorem puts_next (n : Nat) (R : List Nat) : ∀ (l : List Int) (row : List Nat), Fine n row → puts n row l <+: R → R.Nodup → (∀ r ∈ l, MayI n r) → ∀ k (hk : k < l.length),
    place R l[k] ≤ (puts n row (l.take k)).length ∧ (place R l[k] < 0 ↔ l[k] < 0) ∧ (place R l[k] = (puts n row (l.take k)).length ↔ (puts n row (l.take (k + 1))).length = (puts n row (l.take k)).length + 1) ∧ (place R l[k] ≠ (puts n row (l.take k)).length ↔ (puts n row (l.take (k + 1))).length = (puts n row (l.take k)).length)
  | r :: l, row, hf, hp, hR, hm, 0, _ => by
    have hmr := hm r (by simp)
    unfold MayI at hmr
    simp only [List.getElem_cons_zero, List.take_zero, puts_nil, List.take_succ_cons, puts_cons]
    have hpr : put n row r <+: R := (puts_prefix n l _).trans (by rw [puts_cons] at hp; exact hp)
    by_cases h0 : r < 0
    · rw [place_neg h0]
      unfold put
      rw [if_neg (by omega)]
      refine ⟨by omega, by omega, by omega, by omega⟩
    · obtain ⟨i, rfl⟩ : ∃ i : Nat, r = i := ⟨r.toNat, by omega⟩
      have hin : i ∈ R := hpr.subset (by have := put_mem (n := n) (row := row) (i := (i : Int)) (by omega) hmr.2; simpa using this)
      rw [place_in hin]
      unfold put at hpr ⊢
      rw [Int.toNat_natCast] at hpr ⊢
      by_cases hi : i ∈ row
      · have hrow : row <+: R := by rw [if_neg (fun e => e.2.2 hi)] at hpr; exact hpr
        rw [if_neg (fun e => e.2.2 hi)]
        have hlt : R.idxOf i < row.length := by
          obtain ⟨t, ht⟩ := hrow
          rw [← ht, List.idxOf_append, if_pos hi]
          exact idxOf_lt hi
        refine ⟨by omega, by omega, by omega, by omega⟩
      · rw [if_pos ⟨by omega, hmr.2, hi⟩] at hpr ⊢
        have he : R.idxOf i = row.length := by
          obtain ⟨t, ht⟩ := hpr
          rw [← ht, List.append_assoc, List.idxOf_append, if_neg hi, List.singleton_append, List.idxOf_cons]
          simp
        rw [he]
        refine ⟨by omega, by omega, by simp, by simp⟩
  | r :: l, row, hf, hp, hR, hm, k + 1, hk => by
    rw [puts_cons] at hp
    have := puts_next n R l (put n row r) (put_fine r hf) hp hR (fun a ha => hm a (by simp [ha])) k (by simpa using hk)
    simp only [List.getElem_cons_succ, List.take_succ_cons, puts_cons] at this ⊢
    exact this
end Go.Flo
