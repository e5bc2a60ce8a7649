/-
  Arguments that are rows of calls, and rows of picks: what a walk is told of them. No conditions.
-/
import Derived.Test.YtjicfjnkammmcaaAwake
import Derived.ProofKit
import Derived.OpenShut
import Derived.Deep.Slices
import Derived.Deep.Fields
import Derived.ChangeSame
namespace Go.Proofs.Ytjicfjnkammmcaa
open Go.RowKit Go.Flo Go.ChangeShapes Go.WideShapes Go.Deep

/-- A call, as it came in. -/
structure CallV where
  d : Int
  t : Int
  u : Int
  pa : Option Addr
  pl : Nat
  pc : Nat
  p : Nat → Int

/-- It stands at place i of a row. -/
structure CallAt (w : World) (b o i : Nat) (c : CallV) : Prop where
  c0 : w.cell? ⟨b, o + i * 4, none⟩ = some (.int .i64 c.d)
  c1 : w.cell? ⟨b, o + i * 4 + 1, none⟩ = some (.int .i64 c.t)
  c2 : w.cell? ⟨b, o + i * 4 + 2, none⟩ = some (.int .u64 c.u)
  c3 : w.cell? ⟨b, o + i * 4 + 3, none⟩ = some (.slice c.pa c.pl c.pc)
  d0 : -9223372036854775808 ≤ c.d
  d1 : c.d ≤ 9223372036854775807
  t0 : -9223372036854775808 ≤ c.t
  t1 : c.t ≤ 9223372036854775807
  u0 : 0 ≤ c.u
  u1 : c.u < 18446744073709551616
  pk : Pk w [] c.pa c.pl c.pc c.p
  pb : ∀ j, 0 ≤ c.p j ∧ c.p j < 256

/-- A row of calls that came in. -/
def IsCalls (w : World) (a : Option Addr) (len cap : Nat) : Prop :=
  len ≤ cap ∧ cap ≤ 9223372036854775807 ∧ (0 < len → ∃ b o, a = some ⟨b, o, none⟩ ∧ b < w.heap.size ∧ ∀ i, i < len → ∃ c, CallAt w b o i c)

theorem Pk.lift {w w' : World} {own : List Nat} {A : Option Addr} {m c : Nat} {p : Nat → Int} (h : Pk w [] A m c p) (hk : Keep [] w w') (ho : ∀ k ∈ own, w.heap.size ≤ k) : Pk w' own A m c p :=
  ⟨h.mc, h.cap, h.lack, fun hm => by
    obtain ⟨ad, e, h1, h2, h3⟩ := h.cells hm
    exact ⟨ad, e, fun hi => by have := ho _ hi; omega, Nat.lt_of_lt_of_le h2 hk.size, fun j hj => (hk.cell (by rw [add_block]; exact h2) (by simp)).trans (h3 j hj)⟩⟩

theorem CallAt.keep {w w' : World} {b o i : Nat} {c : CallV} (h : CallAt w b o i c) (hk : Keep [] w w') : CallAt w' b o i c := by
  have hb : b < w.heap.size := World.block_lt_of_cell? w _ h.c0
  exact { h with c0 := (hk.cell (p := ⟨b, _, none⟩) hb (by simp)).trans h.c0, c1 := (hk.cell (p := ⟨b, _, none⟩) hb (by simp)).trans h.c1, c2 := (hk.cell (p := ⟨b, _, none⟩) hb (by simp)).trans h.c2, c3 := (hk.cell (p := ⟨b, _, none⟩) hb (by simp)).trans h.c3, pk := h.pk.lift hk (by simp) }

theorem wf_i64 {x : Int} (h : (Lit.int .i64 x).wf = true) : -9223372036854775808 ≤ x ∧ x ≤ 9223372036854775807 := by
  simp [Lit.wf] at h
  have e := h
  have e1 : IntKind.i64.min = -9223372036854775808 := by decide
  have e2 : IntKind.i64.max = 9223372036854775807 := by decide
  omega
theorem wf_u64 {x : Int} (h : (Lit.int .u64 x).wf = true) : 0 ≤ x ∧ x < 18446744073709551616 := by
  simp [Lit.wf] at h
  have e := h
  have e1 : IntKind.u64.min = 0 := by decide
  have e2 : IntKind.u64.max = 18446744073709551615 := by decide
  omega
theorem wf_u8 {x : Int} (h : (Lit.int .u8 x).wf = true) : 0 ≤ x ∧ x < 256 := by
  simp [Lit.wf] at h
  have e := h
  have e1 : IntKind.u8.min = 0 := by decide
  have e2 : IntKind.u8.max = 255 := by decide
  omega

theorem spot_none {w : World} {a : Addr} {v : Value} (h : w.cell? a = some v) : a.spot = none := by
  unfold World.cell? at h
  split at h
  · split at h
    · cases h
    · rename_i hs
      cases e : a.spot with
      | none => rfl
      | some _ => rw [e] at hs; simp at hs
  · cases h

section
variable {H : Type} {enc : TypeId × Value → H} {w : World} {base : Nat} {held : Bool}

/-- A row of picks. -/
theorem open_picks {fuel : Nat} {v : Value} {x : DataW H × List MemPlace} (h : DataW.trod enc Try.prog w base (fun _ => true) held fuel 29 [v] = some x) :
    ∃ (A : Option Addr) (m c : Nat) (p : Nat → Int), v = .slice A m c ∧ Pk w [] A m c p ∧ ∀ j, 0 ≤ p j ∧ p j < 256 := by
  rcases open_ints Try.underlying29 Try.underlying5 (by kernel_rfl) h with ⟨hcs, _⟩ | ⟨a, l, c, zs, hcs, _, hl, hm, hz, _, hcell, hwz⟩
  · simp at hcs
    subst hcs
    exact ⟨none, 0, 0, fun _ => 0, rfl, Pk.nil _ _, fun _ => ⟨by simp, by simp⟩⟩
  · simp at hcs
    subst hcs
    unfold maxLen at hm
    simp at hz
    refine ⟨some a, l, c, fun j => if j < l then zs.getD j 0 else 0, rfl, ⟨hl, by omega, fun j hj => if_neg (by omega), fun hl0 => ?_⟩, fun j => ?_⟩
    · refine ⟨a, rfl, by simp, ?_, fun j hj => ?_⟩
      · have := World.block_lt_of_cell? w _ (hcell 0 (by omega))
        rwa [add_block] at this
      · rw [hcell j (by omega), if_pos hj]
    · dsimp only
      split
      · rename_i hj
        have hj' : j < zs.length := by omega
        have := wf_u8 (hwz (zs.getD j 0) (by rw [show zs.getD j 0 = zs[j] from by simp [List.getD, hj']]; exact List.getElem_mem hj'))
        exact this
      · omega

theorem fields31 : ∃ fs : Array Field, Try.prog.underlying 31 = some (.struct fs) ∧ oneCellFields Try.prog fs = true ∧ (fs[0]?.map (·.type)) = some 3 ∧ (fs[1]?.map (·.type)) = some 3 ∧ (fs[2]?.map (·.type)) = some 28 ∧ (fs[3]?.map (·.type)) = some 29 :=
  ⟨_, Try.underlying31, by kernel_rfl, by kernel_rfl, by kernel_rfl, by kernel_rfl, by kernel_rfl⟩

theorem cells31 : Try.prog.cellsOf 31 = 4 := by kernel_rfl

theorem open_call {fuel : Nat} {cs : List Value} {x : DataW H × List MemPlace} {b o i : Nat} (hc : ∀ j, j < 4 → w.cell? ⟨b, o + i * 4 + j, none⟩ = cs[j]?) (hl : cs.length = 4)
    (h : DataW.trod enc Try.prog w base (fun _ => true) held fuel 31 cs = some x) : ∃ c, CallAt w b o i c := by
  obtain ⟨fs, hs, hone, f0, f1, f2, f3⟩ := fields31
  obtain ⟨xs, n, _, _, _, _, hf⟩ := DataW.trod_struct hs h
  match cs, hl with
  | [v0, v1, v2, v3], _ =>
    have get : ∀ (j : Nat) (t : TypeId), (fs[j]?.map (·.type)) = some t → ∀ v, [v0, v1, v2, v3][j]? = some v → ∃ y, DataW.trod enc Try.prog w base (fun _ => true) held n t [v] = some y := by
      intro j t ht v hv
      obtain ⟨f, hfj, rfl⟩ := Option.map_eq_some_iff.1 ht
      obtain ⟨ho, hk⟩ := hone_of hone j f hfj
      have h1 := hf j f hfj
      rw [ho, hk] at h1
      have e : ([v0, v1, v2, v3].drop j).take 1 = [v] := by
        have hj := (List.getElem?_eq_some_iff.1 hv).1
        rw [List.drop_eq_getElem_cons hj]
        simp only [List.take_succ_cons, List.take_zero]
        rw [(List.getElem?_eq_some_iff.1 hv).2]
      rw [e] at h1
      cases hx : xs[j]? with
      | none =>
        have : xs.length = fs.size := by assumption
        have hj2 := (Array.getElem?_eq_some_iff.1 hfj).1
        rw [List.getElem?_eq_none_iff] at hx
        omega
      | some y => exact ⟨y, h1.trans hx⟩
    obtain ⟨y0, h0⟩ := get 0 3 f0 v0 rfl
    obtain ⟨y1, h1⟩ := get 1 3 f1 v1 rfl
    obtain ⟨y2, h2⟩ := get 2 28 f2 v2 rfl
    obtain ⟨y3, h3⟩ := get 3 29 f3 v3 rfl
    obtain ⟨d, e0, _, wd⟩ := DataW.trod_int Try.underlying3 h0
    obtain ⟨t, e1, _, wt⟩ := DataW.trod_int Try.underlying3 h1
    obtain ⟨u, e2, _, wu⟩ := DataW.trod_int Try.underlying28 h2
    obtain ⟨A, m, c, p, e3, hp, hpb⟩ := open_picks h3
    simp only [List.cons.injEq, and_true] at e0 e1 e2
    subst e0 e1 e2 e3
    have a0 := wf_i64 wd
    have a1 := wf_i64 wt
    have a2 := wf_u64 wu
    exact ⟨⟨d, t, u, A, m, c, p⟩, (hc 0 (by omega)).trans rfl, (hc 1 (by omega)).trans rfl, (hc 2 (by omega)).trans rfl, (hc 3 (by omega)).trans rfl, a0.1, a0.2, a1.1, a1.2, a2.1, a2.2, hp, hpb⟩

theorem open_calls {a : Option Addr} {len cap : Nat} {d : DataW H} {p : List MemPlace} (h : DataW.Trod enc Try.prog w base (fun _ => true) held 22 (.slice a len cap) d p) : IsCalls w a len cap := by
  obtain ⟨fuel, hf⟩ := h
  rcases open_slice Try.underlying22 hf with ⟨hcs, _⟩ | ⟨x, l, c, m, n, D, Pl, hcs, _, hl, hm, hmm, _, hi⟩
  · simp [Value.cells] at hcs
    obtain ⟨rfl, rfl, rfl⟩ := hcs
    exact ⟨by omega, by omega, fun h => absurd h (by omega)⟩
  · simp [Value.cells] at hcs
    obtain ⟨rfl, rfl, rfl⟩ := hcs
    unfold maxLen at hm
    simp at hmm
    subst hmm
    refine ⟨hl, by omega, fun hp => ?_⟩
    have key : ∀ i, i < len → ∃ cs', (∀ j, j < 4 → w.cell? (x.add (i * 4 + j)) = cs'[j]?) ∧ cs'.length = 4 ∧ DataW.trod enc Try.prog w base (fun _ => true) held n 31 cs' = some (D i, Pl i) := by
      intro i hi'
      obtain ⟨cs', h1, h2⟩ := hi i (by omega)
      rw [cells31] at h1
      obtain ⟨_, h3, h4⟩ := World.cells?_some h1
      exact ⟨cs', fun j hj => by rw [← h4 j hj, add_add'], h3, h2⟩
    obtain ⟨cs0, k1, k2, _⟩ := key 0 hp
    have hc0 : ∃ v, w.cell? (x.add (0 * 4 + 0)) = some v := by
      rw [k1 0 (by omega)]
      exact ⟨cs0[0], List.getElem?_eq_getElem (by omega)⟩
    obtain ⟨v, hv⟩ := hc0
    have hx0 : x.add (0 * 4 + 0) = x := by simp [Addr.add]
    rw [hx0] at hv
    have hsp := spot_none hv
    obtain ⟨b, o, sp⟩ := x
    dsimp only at hsp
    subst hsp
    refine ⟨b, o, rfl, World.block_lt_of_cell? w _ hv, fun i hi' => ?_⟩
    obtain ⟨cs', h1, h2, h3⟩ := key i hi'
    refine open_call (fun j hj => ?_) h2 h3
    rw [← h1 j hj]
    have e : (⟨b, o, none⟩ : Addr).add (i * 4 + j) = ⟨b, o + i * 4 + j, none⟩ := by unfold Addr.add; split <;> simp_all [Nat.add_assoc]
    rw [e]
end
end Go.Proofs.Ytjicfjnkammmcaa
