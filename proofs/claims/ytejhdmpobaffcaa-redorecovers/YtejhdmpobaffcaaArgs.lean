/-
  Arguments that are rows of calls, and rows of picks: what a walk is told of them. No conditions.
-/
import Derived.Test.YtejhdmpobaffcaaAwake
import Derived.ProofKit
import Derived.OpenShut
import Derived.Deep.Slices
import Derived.Deep.Fields
import Derived.ChangeSame
namespace Go.Proofs.Ytejhdmpobaffcaa
open Go.RowKit Go.Flo Go.ChangeShapes Go.WideShapes Go.Deep
set_option maxRecDepth 100000

/-- A call, as it came in. -/
structure CallV where
  d : Int
  t : Int
  u : Int
  pa : Option Addr
  pl : Nat
  pc : Nat
  p : Nat → Int

/-- It stands at place i of a row. -/
structure CallAt (w : World) (b o i : Nat) (c : CallV) : Prop where
  c0 : w.cell? ⟨b, o + i * 4, none⟩ = some (.int .i64 c.d)
  c1 : w.cell? ⟨b, o + i * 4 + 1, none⟩ = some (.int .i64 c.t)
  c2 : w.cell? ⟨b, o + i * 4 + 2, none⟩ = some (.int .u64 c.u)
  c3 : w.cell? ⟨b, o + i * 4 + 3, none⟩ = some (.slice c.pa c.pl c.pc)
  d0 : -9223372036854775808 ≤ c.d
  d1 : c.d ≤ 9223372036854775807
  t0 : -9223372036854775808 ≤ c.t
  t1 : c.t ≤ 9223372036854775807
  u0 : 0 ≤ c.u
  u1 : c.u < 18446744073709551616
  pk : Pk w [] c.pa c.pl c.pc c.p
  pb : ∀ j, 0 ≤ c.p j ∧ c.p j < 256

/-- A row of calls that came in. -/
def IsCalls (w : World) (a : Option Addr) (len cap : Nat) : Prop :=
  len ≤ cap ∧ cap ≤ 9223372036854775807 ∧ (0 < len → ∃ b o, a = some ⟨b, o, none⟩ ∧ b < w.heap.size ∧ ∀ i, i < len → ∃ c, CallAt w b o i c)

theorem Pk.lift {w w' : World} {own : List Nat} {A : Option Addr} {m c : Nat} {p : Nat → Int} (h : Pk w [] A m c p) (hk : Keep [] w w') (ho : ∀ k ∈ own, w.heap.size ≤ k) : Pk w' own A m c p :=
  ⟨h.mc, h.cap, h.lack, fun hm => by
    obtain ⟨ad, e, h1, h2, h3⟩ := h.cells hm
    exact ⟨ad, e, fun hi => by have := ho _ hi; omega, Nat.lt_of_lt_of_le h2 hk.size, fun j hj => (hk.cell (by rw [add_block]; exact h2) (by simp)).trans (h3 j hj)⟩⟩

theorem CallAt.keep {w w' : World} {b o i : Nat} {c : CallV} (h : CallAt w b o i c) (hk : Keep [] w w') : CallAt w' b o i c := by
  have hb : b < w.heap.size := World.block_lt_of_cell? w _ h.c0
  exact { h with c0 := (hk.cell (p := ⟨b, _, none⟩) hb (by simp)).trans h.c0, c1 := (hk.cell (p := ⟨b, _, none⟩) hb (by simp)).trans h.c1, c2 := (hk.cell (p := ⟨b, _, none⟩) hb (by simp)).trans h.c2, c3 := (hk.cell (p := ⟨b, _, none⟩) hb (by simp)).trans h.c3, pk := h.pk.lift hk (by simp) }

theorem wf_i64 {x : Int} (h : (Lit.int .i64 x).wf = true) : -9223372036854775808 ≤ x ∧ x ≤ 9223372036854775807 := by
  simp [Lit.wf] at h
  have e := h
  have e1 : IntKind.i64.min = -9223372036854775808 := by decide
  have e2 : IntKind.i64.max = 9223372036854775807 := by decide
  omega
theorem wf_u64 {x : Int} (h : (Lit.int .u64 x).wf = true) : 0 ≤ x ∧ x < 18446744073709551616 := by
  simp [Lit.wf] at h
  have e := h
  have e1 : IntKind.u64.min = 0 := by decide
  have e2 : IntKind.u64.max = 18446744073709551615 := by decide
  omega
theorem wf_u8 {x : Int} (h : (Lit.int .u8 x).wf = true) : 0 ≤ x ∧ x < 256 := by
  simp [Lit.wf] at h
  have e := h
  have e1 : IntKind.u8.min = 0 := by decide
  have e2 : IntKind.u8.max = 255 := by decide
  omega

theorem spot_none {w : World} {a : Addr} {v : Value} (h : w.cell? a = some v) : a.spot = none := by
  unfold World.cell? at h
  split at h
  · split at h
    · cases h
    · rename_i hs
      cases e : a.spot with
      | none => rfl
      | some _ => rw [e] at hs; simp at hs
  · cases h

section
variable {H : Type} {enc : TypeId × Value → H} {w : World} {base : Nat} {held : Bool}

/-- A row of picks. -/
theorem open_picks {fuel : Nat} {v : Value} {x : DataW H × List MemPlace} (h : DataW.trod enc Try.prog w base (fun _ => true) held fuel 40 [v] = some x) :
    ∃ (A : Option Addr) (m c : Nat) (p : Nat → Int), v = .slice A m c ∧ Pk w [] A m c p ∧ ∀ j, 0 ≤ p j ∧ p j < 256 := by
  rcases open_ints Try.underlying40 Try.underlying5 (by kernel_rfl) h with ⟨hcs, _⟩ | ⟨a, l, c, zs, hcs, _, hl, hm, hz, _, hcell, hwz⟩
  · simp at hcs
    subst hcs
    exact ⟨none, 0, 0, fun _ => 0, rfl, Pk.nil _ _, fun _ => ⟨by simp, by simp⟩⟩
  · simp at hcs
    subst hcs
    unfold maxLen at hm
    simp at hz
    refine ⟨some a, l, c, fun j => if j < l then zs.getD j 0 else 0, rfl, ⟨hl, by omega, fun j hj => if_neg (by omega), fun hl0 => ?_⟩, fun j => ?_⟩
    · refine ⟨a, rfl, by simp, ?_, fun j hj => ?_⟩
      · have := World.block_lt_of_cell? w _ (hcell 0 (by omega))
        rwa [add_block] at this
      · rw [hcell j (by omega), if_pos hj]
    · dsimp only
      split
      · rename_i hj
        have hj' : j < zs.length := by omega
        have := wf_u8 (hwz (zs.getD j 0) (by rw [show zs.getD j 0 = zs[j] from by simp [List.getD, hj']]; exact List.getElem_mem hj'))
        exact this
      · omega

end

end Go.Proofs.Ytejhdmpobaffcaa
