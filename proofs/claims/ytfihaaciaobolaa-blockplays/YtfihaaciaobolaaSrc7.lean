/-
  Rows of entries that are appended to. Plain facts, no Go text in sight. No conditions.
-/
import Derived.Test.YtfihaaciaobolaaTb0
import Derived.Test.YtfihaaciaobolaaMem
import Derived.Maps.AppendAt
namespace Go.Proofs.Ytfihaaciaobolaa
open Go.RowKit Go.Flo Go.Bmp
set_option maxRecDepth 100000

/-- A row of entries. -/
structure Ents (w : World) (own : List Nat) (A : Option Addr) (n cap : Nat) (E : Nat → Ent) : Prop where
  nc : n ≤ cap
  cap : cap ≤ 9223372036854775807
  cells : 0 < n → ∃ b o, A = some ⟨b, o, none⟩ ∧ b ∉ own ∧ b < w.heap.size ∧ ∀ j, j < n → w.cell? ⟨b, o + j * 2, none⟩ = some (.int .i64 (E j).a) ∧ w.cell? ⟨b, o + j * 2 + 1, none⟩ = some (.int .u64 (E j).v)

theorem Ents.keep {w w' : World} {own : List Nat} {A : Option Addr} {n cap : Nat} {E : Nat → Ent} (h : Ents w own A n cap E) (hk : Keep own w w') : Ents w' own A n cap E :=
  ⟨h.nc, h.cap, fun h0 => by
    obtain ⟨b, o, h1, h2, h3, h4⟩ := h.cells h0
    exact ⟨b, o, h1, h2, Nat.lt_of_lt_of_le h3 hk.size, fun j hj => ⟨(hk.cell (p := ⟨b, _, none⟩) h3 h2).trans (h4 j hj).1, (hk.cell (p := ⟨b, _, none⟩) h3 h2).trans (h4 j hj).2⟩⟩⟩

theorem ownsRow_keep {w w' : World} {base n size : Nat} {e : TypeId} {v : Value} {xs : List Value} {own : List Nat} (h : w.ownsRow base e size v n xs) (hk : Keep own w w') (ho : ∀ k ∈ own, k < base) : w'.ownsRow base e size v n xs := by
  refine ⟨h.1, ?_⟩
  rcases h.2 with h2 | ⟨g, cap, cur, e1, hg, hh, r⟩
  · exact .inl h2
  · exact .inr ⟨g, cap, cur, e1, hg, (hk.block g (Blk.lt (cs := cur) hh) (fun hm => by have := ho g hm; omega)).trans hh, r⟩
theorem ownsRow_keep0 {w w' : World} {base n size : Nat} {e : TypeId} {v : Value} {xs : List Value} (h : w.ownsRow base e size v n xs) (hk : Keep [] w w') : w'.ownsRow base e size v n xs := ownsRow_keep h hk (by simp)
theorem parts46 : (Try.prog.info? 66).map (fun i => (i.zero, i.size, i.bytes)) = some (some (.agg #[.int .i64 0, .int .u64 0]), 2, 16) := by kernel_rfl

theorem run_append_from_none {P : Program} (w : World) (base : Nat) (t ty e : TypeId) (i : TypeInfo) (size : Nat) (ht : P.underlying t = some (.slice e)) (hi : P.info? e = some i)
    (v : Value) (n c : Nat) (xs : List Value) (hown : w.ownsRow base e size v n xs) :
    (Builtin.append_ #[t, t] ty #[v, .slice none 0 c]).run P w = .ok v w := by
  rcases hown.2 with ⟨rfl, rfl⟩ | ⟨g, cap, cur, rfl, _, _, hnc, _⟩
  · simp [Builtin.append_, run_underlying ht, sizeOf, typeInfo, hi, Builtin.lenOf, Builtin.firstCells]
  · simp [Builtin.append_, run_underlying ht, sizeOf, typeInfo, hi, Builtin.lenOf, Builtin.firstCells, hnc, storeCells]

theorem grownBy_refl (w : World) (r : Option Nat) : w.grownBy w r := ⟨rfl, rfl, rfl, Nat.le_refl _, fun _ _ _ => rfl⟩

/-- append of a slice that may be nil. -/
theorem wpList_append_src {P : Program} {w : World} {ops : Array Oper} {rest : List Oper} {o : Oper} {a : Act} {Q : Exit → Act → World → Prop} (hgd : o.guard = none) (s x : Operand) (t : TypeId)
    (ho : o.op = .call { callee := .builtin .append, args := #[s, x], argTypes := #[t, t] })
    (base : Nat) (e : TypeId) (i : TypeInfo) (z : Value) (size bytes : Nat) (ht : P.underlying t = some (.slice e)) (hi : P.info? e = some i) (hz : i.zero = some z)
    (hsize : i.size = size) (hby : i.bytes = bytes) (hzs : z.cells.size = size) (hsz : 0 < size)
    (v : Value) (n : Nat) (xs : List Value) (hs : a.eval s = v) (hown : w.ownsRow base e size v n xs)
    (A : Option Addr) (m c : Nat) (news : List Value) (hx : a.eval x = .slice A m c) (hl : news.length = m * size) (hA : A = none → m = 0) (hnews : ∀ ad, A = some ad → ∀ j u, news[j]? = some u → w.cell? (ad.add j) = some u) (h1 : ∀ u ∈ news, u.oneCell' = true)
    (h63 : n + m ≤ maxLen) (hbytes : (n + m) * bytes ≤ 140737488355328) (hbase : base ≤ w.heap.size)
    (h : ∀ v' w', w'.ownsRow base e size v' (n + m) (xs ++ news) → w.grownBy w' v.ownBlock → wpList P ops Q rest (a.put o.dst v') w') :
    wpList P ops Q (o :: rest) a w := by
  cases A with
  | some ad => exact wpList_append_own_at w hgd s x t ho base e i z size bytes ht hi hz hsize hby hzs hsz v n xs hs hown ad m c news hx hl (hnews ad rfl) h1 h63 hbytes hbase (fun v' w' h1 h2 _ _ => h v' w' h1 h2)
  | none =>
    obtain rfl := hA rfl
    have hn0 : news = [] := by cases news <;> simp_all
    subst hn0
    refine wpList_plain hgd fun K hK => ?_
    unfold Oper.wp execOp
    simp only [ho, resolve, invoke, builtin, Sem.run_bind, Sem.run_pure, Result.andThen_ok, List.map_toArray, List.map_cons, List.map_nil, hs, hx, run_append_from_none w base t o.type e i size ht hi v n c xs hown]
    exact hK _ _ (h v w (by simpa using hown) (grownBy_refl _ _))

/-- Entries' cells. -/
def entsR (E : Nat → Ent) : Nat → List Value
  | 0 => []
  | k + 1 => entsR E k ++ [.int .i64 (E k).a, .int .u64 (E k).v]
theorem entsR_len (E : Nat → Ent) (n : Nat) : (entsR E n).length = n * 2 := by
  induction n with
  | zero => rfl
  | succ n ih => simp [entsR, ih]; omega
theorem entsR_get (E : Nat → Ent) (n j : Nat) (hj : j < n) : (entsR E n)[j * 2]? = some (.int .i64 (E j).a) ∧ (entsR E n)[j * 2 + 1]? = some (.int .u64 (E j).v) := by
  induction n with
  | zero => omega
  | succ n ih =>
    have hl := entsR_len E n
    unfold entsR
    by_cases h : j < n
    · rw [List.getElem?_append_left (by omega), List.getElem?_append_left (by omega)]
      exact ih h
    · obtain rfl : j = n := by omega
      rw [List.getElem?_append_right (by omega), List.getElem?_append_right (by omega), hl]
      simp
theorem entsR_congr {E E' : Nat → Ent} {n : Nat} (h : ∀ j, j < n → E j = E' j) : entsR E n = entsR E' n := by
  induction n with
  | zero => rfl
  | succ n ih => rw [entsR, entsR, ih (fun j hj => h j (by omega)), h n (by omega)]
theorem Ents.of_owns {w : World} {base n : Nat} {v : Value} {E : Nat → Ent} (h : w.ownsRow base 66 2 v n (entsR E n)) : ∃ A cap, v = .slice A n cap ∧ Ents w [] A n cap E ∧ (0 < n → ∃ g, A = some ⟨g, 0, none⟩ ∧ base ≤ g ∧ g < w.heap.size) := by
  rcases id h.2 with ⟨rfl, rfl⟩ | ⟨g, cap, cur, rfl, hg, hh, hn, hm, _⟩
  · exact ⟨none, 0, rfl, ⟨by omega, by omega, fun h0 => by omega⟩, fun h0 => by omega⟩
  · have hlt : g < w.heap.size := Blk.lt (cs := cur) hh
    refine ⟨_, cap, rfl, ⟨hn, by unfold maxLen at hm; omega, fun h0 => ⟨g, 0, rfl, by simp, hlt, fun j hj => ?_⟩⟩, fun _ => ⟨g, rfl, hg, hlt⟩⟩
    obtain ⟨e1, e2⟩ := entsR_get E n j hj
    exact ⟨by rw [Nat.zero_add, h.cellAt _ (by omega), e1], by rw [Nat.zero_add, h.cellAt _ (by omega), e2]⟩
theorem Ents.lift {w w' : World} {own : List Nat} {A : Option Addr} {n cap : Nat} {E : Nat → Ent} (h : Ents w [] A n cap E) (hk : Keep [] w w') (ho : ∀ k ∈ own, w.heap.size ≤ k) : Ents w' own A n cap E :=
  ⟨h.nc, h.cap, fun h0 => by
    obtain ⟨b, o, h1, h2, h3, h4⟩ := h.cells h0
    exact ⟨b, o, h1, fun hi => by have := ho _ hi; omega, Nat.lt_of_lt_of_le h3 hk.size, fun j hj => ⟨(hk.cell (p := ⟨b, _, none⟩) h3 (by simp)).trans (h4 j hj).1, (hk.cell (p := ⟨b, _, none⟩) h3 (by simp)).trans (h4 j hj).2⟩⟩⟩
theorem Ents.sub {w : World} {own : List Nat} {A : Option Addr} {n m cap : Nat} {E : Nat → Ent} (h : Ents w own A n cap E) (hm : m ≤ n) : Ents w own A m cap E :=
  ⟨Nat.le_trans hm h.nc, h.cap, fun h0 => by
    obtain ⟨b, o, h1, h2, h3, h4⟩ := h.cells (by omega)
    exact ⟨b, o, h1, h2, h3, fun j hj => h4 j (by omega)⟩⟩
theorem ents_new (W : World) (e : Ent) (H : Nat) (hH : H = W.heap.size) : ∀ ad, some (⟨H, 0, none⟩ : Addr) = some ad → ∀ j u, [Value.int .i64 e.a, .int .u64 e.v][j]? = some u → (W.alloc (.cells #[.int .i64 e.a, .int .u64 e.v] 66)).cell? (ad.add j) = some u := by
  intro ad had j u hu
  injection had with had
  subst had hH
  have e1 : (⟨W.heap.size, 0, none⟩ : Addr).add j = ⟨W.heap.size, j, none⟩ := by unfold Addr.add; split <;> simp_all
  rw [e1, (Blk.new W 66 #[.int .i64 e.a, .int .u64 e.v]).cell]
  simpa using hu
end Go.Proofs.Ytfihaaciaobolaa
