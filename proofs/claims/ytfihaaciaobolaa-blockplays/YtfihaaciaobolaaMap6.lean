/-
  Words that came in, as the shell tells them; scullionref1.SameWords of two rows that are the same. No conditions.
-/
import Derived.Test.YtfihaaciaobolaaMap5
namespace Go.Proofs.Ytfihaaciaobolaa
open Go.RowKit Go.Flo Go.Bit Go.Bmp
set_option maxRecDepth 100000

theorem spotN {w : World} {a : Addr} {v : Value} (h : w.cell? a = some v) : a.spot = none := by
  unfold World.cell? at h
  split at h
  · split at h
    · cases h
    · rename_i hs
      cases e : a.spot with
      | none => rfl
      | some _ => rw [e] at hs; simp at hs
  · cases h

theorem Wrd.of_row {w : World} {a : Option Addr} {len cap : Nat} {zs : List Int}
    (h : (a = none ∧ len = 0 ∧ cap = 0 ∧ zs = []) ∨ ∃ x, a = some x ∧ len ≤ cap ∧ cap ≤ maxLen ∧ zs.length = cap ∧ (∀ i, i < zs.length → w.cell? (x.add i) = some (.int .u64 (zs.getD i 0))) ∧ ∀ n ∈ zs, (Lit.int .u64 n).wf = true) :
    ∃ f, Wrd w a len cap f := by
  rcases h with ⟨rfl, rfl, rfl, rfl⟩ | ⟨x, rfl, h1, h2, h3, h4, h5⟩
  · exact ⟨_, Wrd.nil w⟩
  · have hb : ∀ j, 0 ≤ zs.getD j 0 ∧ zs.getD j 0 < 18446744073709551616 := fun j => by
      rcases Nat.lt_or_ge j zs.length with hj | hj
      · have hm : zs.getD j 0 ∈ zs := by
          rw [List.getD_eq_getElem?_getD, List.getElem?_eq_getElem hj]
          exact List.getElem_mem hj
        have := bounds_u64 (h5 _ hm)
        omega
      · rw [List.getD_eq_getElem?_getD, List.getElem?_eq_none hj]
        simp
    refine ⟨fun j => (zs.getD j 0).toNat, h1, by unfold maxLen at h2; omega, fun j => by have := hb j; omega, fun h0 => ?_⟩
    have hc := h4 0 (by omega)
    have hs := spotN hc
    obtain ⟨b, o, s⟩ := x
    have hs' : s = none := by
      unfold Addr.add at hs
      split at hs <;> simp_all
    subst hs'
    refine ⟨b, o, rfl, by have := World.block_lt_of_cell? w _ hc; rwa [addr_add0] at this, fun j hj => ?_⟩
    have := h4 j (by omega)
    rw [addr_add0] at this
    rw [this]
    have := hb j
    congr 2
    omega

set_option maxHeartbeats 1000000 in
theorem same_wv (w : World) (g c g' c' k : Nat) (B : Nat → Bool) (hk : k ≤ 65536) (ha : Row w 64 g k c (wv B)) (hb : Row w 64 g' k c' (wv B)) :
    Calls Try.prog 27 #[.slice (some ⟨g, 0, none⟩) k c, .slice (some ⟨g', 0, none⟩) k c'] w fun e w' => e = .returned (.bool true) ∧ Dr w w' := by
  have HA := Lib.hid (fun (j : Nat) (hj : j < k) => (ha.cell hj : w.cell? ⟨g, j, none⟩ = some (.int .u64 (pack B j : Nat))))
  have HB := Lib.hid (fun (j : Nat) (hj : j < k) => (hb.cell hj : w.cell? ⟨g', j, none⟩ = some (.int .u64 (pack B j : Nat))))
  clear ha hb
  go_enter Try.func27, Try.ntmps27
  go_wp2
  go_loopw [13] (fun x wr => ∃ j : Nat, j ≤ k ∧ x = .int .i64 j ∧ Dr w wr) (fun x _ => k - (intOf x).toNat)
  case atStart => exact ⟨0, by omega, rfl, Dr.refl _⟩
  case round =>
    obtain ⟨j, hj, rfl, hd⟩ := hrel
    obtain ⟨m, rfl⟩ := hd
    by_cases hlt : j < k
    · have ca := HA.out j hlt
      have cb := HB.out j hlt
      obtain ⟨y, hy⟩ : ∃ y : Int, y = ((pack B j : Nat) : Int) := ⟨_, rfl⟩
      unfold wv at ca cb
      rw [← hy] at ca cb
      clear hy
      go_wp2
      go_quiet (fail)
      go_wp2
      go_roundw
      case rel => exact ⟨j + 1, by omega, by go_num, Dr.drewN _ _⟩
      case measure => simp [intOf]; omega
    · have hjk : j = k := by omega
      subst hjk
      go_wp2
      go_ret
      exact ⟨rfl, Dr.drewN _ _⟩

/-- A number made small, as a law does it. -/
def capN (m : Int) (x : Int) : Nat := (max 0 (min x m)).toNat
end Go.Proofs.Ytfihaaciaobolaa
