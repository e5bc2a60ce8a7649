/-
  slices.Clone of numbers; layout.copied: a config's kinds of its own. No conditions but what is in memory.
-/
import Derived.Test.YtfihaaciaobolaaLay1
import Derived.Handy
namespace Go.Proofs.Ytfihaaciaobolaa
open Go.RowKit Go.Flo Go.Bit
set_option maxRecDepth 100000

theorem addr_add0 (b o j : Nat) : (⟨b, o, none⟩ : Addr).add j = ⟨b, o + j, none⟩ := by unfold Addr.add; split <;> simp_all

theorem intparts : (Try.prog.info? 3).map (fun i => (i.zero, i.size, i.bytes)) = some (some (.int .i64 0), 1, 8) := by kernel_rfl

theorem kindparts : (Try.prog.info? 71).map (fun i => (i.zero, i.size, i.bytes)) = some (some (.agg #[.slice none 0 0]), 1, 24) := by kernel_rfl

theorem info_of {P : Program} {t : TypeId} {z : Option Value} {s b : Nat} (h : (P.info? t).map (fun i => (i.zero, i.size, i.bytes)) = some (z, s, b)) : ∃ i, P.info? t = some i ∧ i.zero = z ∧ i.size = s ∧ i.bytes = b := by
  cases hq : P.info? t with
  | none => simp [hq] at h
  | some i =>
    simp [hq] at h
    exact ⟨i, rfl, h.1, h.2.1, h.2.2⟩

/-- Numbers in memory that was not there. -/
def NewInts (m : Nat) (f : Nat → Int) (w : World) (e : Ending) (w' : World) : Prop :=
  ∃ A c, e = .returned (.slice A m c) ∧ Ints w' A m c f ∧ (∀ a, A = some a → w.heap.size ≤ a.block) ∧ Keep [] w w'

def iv (f : Nat → Int) (j : Nat) : Value := .int .i64 (f j)

theorem Ints.row {w : World} {g n cap : Nat} {f : Nat → Int} (h : Row w 3 g n cap (iv f)) : Ints w (some ⟨g, 0, none⟩) n cap f :=
  ⟨h.cap_le, fun e => by (cases e), by have := h.cap_max; unfold maxLen at this; omega, fun _ => ⟨g, 0, rfl, h.lt, fun j hj => by rw [Nat.zero_add]; exact h.cell hj⟩⟩

set_option maxHeartbeats 1000000 in
theorem clone_ints (w : World) (A : Option Addr) (m c : Nat) (f : Nat → Int) (hm : m ≤ 1000) (h : Ints w A m c f) :
    Calls Try.prog 58 #[.slice A m c] w (NewInts m f w) := by
  cases A with
  | none =>
    obtain ⟨rfl, rfl⟩ := h.nil rfl
    have hq : ∀ W : World, (binOp .eql 43 (.slice none 0 0) (.slice none 0 0)).run Try.prog W = .ok (.bool true) W := fun W => Lib.run_eql_slice_nil W 43 3 none 0 0 0 0 Try.underlying43
    go_enter Try.func58, Try.ntmps58
    go_wp2
    go_ret
    exact ⟨none, 0, rfl, Ints.none _ _, fun a e => by (cases e), Keep.refl _ _⟩
  | some ad =>
    obtain ⟨i0, hi, hz0, hz1, hz2⟩ := info_of intparts
    have HC := Lib.hid h
    clear h
    have hq : ∀ W : World, (binOp .eql 43 (.slice (some ad) m c) (.slice none 0 0)).run Try.prog W = .ok (.bool false) W := fun W => Lib.run_eql_slice_nil W 43 3 (some ad) m c 0 0 Try.underlying43
    go_enter Try.func58, Try.ntmps58
    go_wp2_with (at_builtin; refine wpList_append_own_at _ rfl (.tmp 5) (.tmp 6) 43 rfl w.heap.size 3 i0 (.int .i64 0) 1 8 Try.underlying43 hi hz0 hz1 hz2 rfl (by omega) (.slice (some ⟨w.heap.size, 0, none⟩) 0 0) 0 [] rfl (World.ownsRow_made w #[] 0 (Nat.le_refl _) (by simp [maxLen]) rfl) ad m c ((List.range m).map (iv f)) rfl ?c1 ?c2 ?c3 ?c4 ?c5 ?c6 ?_)
    case c1 => simp
    case c2 =>
      intro j u hu
      have hj : j < m := by
        have := (List.getElem?_eq_some_iff.1 hu).1
        simpa using this
      have hu' : iv f j = u := by simpa [hj] using hu
      obtain ⟨b, o, e, hb, hc⟩ := HC.out.cells (by omega)
      injection e with e
      subst e
      rw [addr_add0, World.cell?_alloc_lt _ _ _ hb, hc j hj, ← hu']
      rfl
    case c3 =>
      intro u hu
      simp only [List.mem_map, List.mem_range] at hu
      obtain ⟨j, _, rfl⟩ := hu
      rfl
    case c4 => simp [maxLen]; omega
    case c5 => omega
    case c6 => simp
    intro v' w' hown hgrow hnil hblk
    have hk : Keep [] w w' := by
      refine ⟨hgrow.os, hgrow.tape, hgrow.output, ?_, fun k hk _ => ?_⟩
      · have := hgrow.size
        simp at this
        omega
      · rw [hgrow.block k (by simp; omega) (by simp [Value.ownBlock]; omega)]
        exact Below.heap_alloc _ _ _ hk
    have hfin : ∃ g cap, v' = .slice (some ⟨g, 0, none⟩) m cap ∧ Row w' 3 g m cap (iv f) ∧ w.heap.size ≤ g := by
      obtain ⟨_, h2⟩ := id hown
      rcases h2 with ⟨h2, _⟩ | ⟨g, cap, cur, rfl, hg, _⟩
      · exact absurd h2 hnil
      · exact ⟨g, cap, rfl, Row.of_owns hown, hg⟩
    obtain ⟨g, cap, rfl, hR, hg⟩ := hfin
    clear hown hgrow hnil hblk hq
    go_wp2
    go_ret
    exact ⟨_, cap, rfl, Ints.row hR, fun a e => by injection e with e; subst e; exact hg, hk⟩
end Go.Proofs.Ytfihaaciaobolaa
