/-
  Rows of words that a law makes. No conditions.
-/
import Derived.Test.YtejhdmpobaffcaaSrc
import Derived.Test.YtejhdmpobaffcaaLaid
import Derived.Test.YtejhdmpobaffcaaRedo9
import Derived.Test.YtejhdmpobaffcaaAwa
import Derived.Test.YtejhdmpobaffcaaArgs2
namespace Go.Proofs.Ytejhdmpobaffcaa
open Go.RowKit Go.Flo
set_option maxRecDepth 100000

theorem mk_words (K : Nat) (hK : K ≤ 65536) (W : World) : (Instr.makeSlice 25 (.int .i64 (K : Nat)) (.int .i64 (K : Nat))).run Try.prog W = .ok (.slice (some ⟨W.heap.size, 0, none⟩) K K) (W.alloc (.cells (madeCells (Value.int .u64 0).cells (K * 1)) 44)) := by
  obtain ⟨i28, hi28, z28a, z28b, z28c⟩ := info_parts parts28
  have := run_make (P := Try.prog) W 25 44 i28 (.int .u64 0) Try.underlying25 hi28 z28a .i64 .i64 (K : Nat) (K : Nat) (by omega) (by omega) (by rw [z28c]; omega) (by omega)
  rw [z28b] at this
  simpa using this
theorem made_row (W : World) (K : Nat) (hK : K ≤ 65536) : (W.alloc (.cells (madeCells (Value.int .u64 0).cells (K * 1)) 44)).ownsRow W.heap.size 44 1 (.slice (some ⟨W.heap.size, 0, none⟩) K K) K (rowR K fun _ => 0) := by
  have h := (Row.made W 44 (.int .u64 0) rfl K (by unfold maxLen; omega)).toOwns W.heap.size (Nat.le_refl _)
  exact h

theorem Wds.nil {w : World} {A : Option Addr} {n cap : Nat} {f : Nat → Int} (h : Wds w A n cap f) : A = none → n = 0 := by
  intro hA
  rcases Nat.eq_zero_or_pos n with h0 | h0
  · exact h0
  · obtain ⟨b, o, h1, _⟩ := h.cells h0
    rw [hA] at h1; cases h1
theorem Wds.sub {w : World} {A : Option Addr} {n m cap : Nat} {f : Nat → Int} (h : Wds w A n cap f) (hm : m ≤ n) : Wds w A m cap f :=
  ⟨Nat.le_trans hm h.nc, h.cap, fun h0 => by
    obtain ⟨b, o, h1, h3, h4⟩ := h.cells (by omega)
    exact ⟨b, o, h1, h3, fun j hj => h4 j (by omega)⟩⟩
theorem Wds.news {w : World} {A : Option Addr} {n cap : Nat} {f : Nat → Int} (h : Wds w A n cap f) : ∀ ad, A = some ad → ∀ j u, (rowR n f)[j]? = some u → w.cell? (ad.add j) = some u := by
  intro ad had j u hu
  obtain ⟨hj, rfl⟩ := rowR_get hu
  obtain ⟨b, o, h1, _, h4⟩ := h.cells (by omega)
  rw [had] at h1
  injection h1 with h1
  subst h1
  rw [addr_none]
  exact h4 j hj

/-- Words that came in, as the shell tells them. -/
theorem Wds.of_row {w : World} {a : Option Addr} {len cap : Nat} {zs : List Int}
    (h : (a = none ∧ len = 0 ∧ cap = 0 ∧ zs = []) ∨ ∃ x, a = some x ∧ len ≤ cap ∧ cap ≤ maxLen ∧ zs.length = cap ∧ (∀ i, i < zs.length → w.cell? (x.add i) = some (.int .u64 (zs.getD i 0))) ∧ ∀ n ∈ zs, (Lit.int .u64 n).wf = true) :
    ∃ f, Wds w a len cap f ∧ ∀ j, 0 ≤ f j ∧ f j < 18446744073709551616 := by
  rcases h with ⟨rfl, rfl, rfl, rfl⟩ | ⟨x, rfl, h1, h2, h3, h4, h5⟩
  · exact ⟨fun _ => 0, ⟨by omega, by omega, fun h0 => by omega⟩, fun j => by dsimp only; omega⟩
  · refine ⟨fun j => zs.getD j 0, ⟨h1, by unfold maxLen at h2; omega, fun h0 => ?_⟩, fun j => ?_⟩
    · have hc := h4 0 (by omega)
      have hs := spot_none hc
      obtain ⟨b, o, s⟩ := x
      have hs' : s = none := by
        unfold Addr.add at hs
        split at hs <;> simp_all
      subst hs'
      refine ⟨b, o, rfl, by have := World.block_lt_of_cell? w _ hc; rwa [addr_none] at this, fun j hj => ?_⟩
      have := h4 j (by omega)
      rwa [addr_none] at this
    · dsimp only
      rcases Nat.lt_or_ge j zs.length with hj | hj
      · have hm : zs.getD j 0 ∈ zs := by
          rw [List.getD_eq_getElem?_getD, List.getElem?_eq_getElem hj]
          exact List.getElem_mem hj
        exact wf_u64 (h5 _ hm)
      · rw [List.getD_eq_getElem?_getD, List.getElem?_eq_none hj]
        simp
end Go.Proofs.Ytejhdmpobaffcaa
