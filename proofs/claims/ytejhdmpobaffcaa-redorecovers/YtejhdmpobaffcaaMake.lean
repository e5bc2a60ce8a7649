/-
  Words, Copy, Of, New: devices and rows that are made. No conditions but what a device is.
-/
import Derived.Test.YtejhdmpobaffcaaOps
import Derived.OwnWalk
import Derived.Deep.AppendLies
import Derived.Deep.RegionWith
namespace Go.Proofs.Ytejhdmpobaffcaa
open Go.RowKit Go.Flo
set_option maxRecDepth 100000

theorem parts28 : (Try.prog.info? 44).map (fun i => (i.zero, i.size, i.bytes)) = some (some (.int .u64 0), 1, 8) := by kernel_rfl
theorem parts4 : (Try.prog.info? 4).map (fun i => (i.zero, i.size, i.bytes)) = some (some (.bool false), 1, 1) := by kernel_rfl

/-- A row of its own, in a block that was not there. -/
def RowPost (t : TypeId) (n : Nat) (f : Nat → Value) (w : World) (e : Ending) (w' : World) : Prop :=
  ∃ g cap, e = .returned (.slice (some ⟨g, 0, none⟩) n cap) ∧ Row w' t g n cap f ∧ w.heap.size ≤ g ∧ Keep [] w w'

set_option maxHeartbeats 1000000 in
theorem clone_any (w : World) (ad : Addr) (n c : Nat) (f : Nat → Int) (hn : n ≤ 65536) (hc : ∀ j, j < n → w.cell? (ad.add j) = some (u64 f j)) (hb : ad.block < w.heap.size) :
    Calls Try.prog 52 #[.slice (some ad) n c] w (RowPost 44 n (u64 f) w) := by
  obtain ⟨i0, hi, hz0, hz1, hz2⟩ := info_parts parts28
  have HC := Lib.hid hc
  clear hc
  have hq : ∀ W : World, (binOp .eql 25 (.slice (some ad) n c) (.slice none 0 0)).run Try.prog W = .ok (.bool false) W := fun W => Lib.run_eql_slice_nil W 25 44 (some ad) n c 0 0 Try.underlying25
  go_enter Try.func52, Try.ntmps52
  go_wp2_with (at_builtin; refine wpList_append_own_at _ rfl (.tmp 5) (.tmp 6) 25 rfl w.heap.size 44 i0 (.int .u64 0) 1 8 Try.underlying25 hi hz0 hz1 hz2 rfl (by omega) (.slice (some ⟨w.heap.size, 0, none⟩) 0 0) 0 [] rfl (World.ownsRow_made w #[] 0 (Nat.le_refl _) (by simp [maxLen]) rfl) ad n c ((List.range n).map (u64 f)) rfl ?c1 ?c2 ?c3 ?c4 ?c5 ?c6 ?_)
  case c1 => simp
  case c2 =>
    intro j u hu
    have hj : j < n := by
      have := (List.getElem?_eq_some_iff.1 hu).1
      simpa using this
    have hu' : u64 f j = u := by simpa [hj] using hu
    rw [World.cell?_alloc_lt _ _ _ (by rw [add_block]; exact hb), HC.out j hj, hu']
  case c3 =>
    intro u hu
    simp only [List.mem_map, List.mem_range] at hu
    obtain ⟨j, _, rfl⟩ := hu
    rfl
  case c4 => simp [maxLen]; omega
  case c5 => omega
  case c6 => simp
  intro v' w' hown hgrow hnil hblk
  have hk : Keep [] w w' := by
    refine ⟨hgrow.os, hgrow.tape, hgrow.output, ?_, fun k hk _ => ?_⟩
    · have := hgrow.size
      simp at this
      omega
    · rw [hgrow.block k (by simp; omega) (by simp [Value.ownBlock]; omega)]
      exact Below.heap_alloc _ _ _ hk
  have hfin : ∃ g cap, v' = .slice (some ⟨g, 0, none⟩) n cap ∧ Row w' 44 g n cap (u64 f) ∧ w.heap.size ≤ g := by
    obtain ⟨_, h2⟩ := id hown
    rcases h2 with ⟨h2, _⟩ | ⟨g, cap, cur, rfl, hg, _⟩
    · exact absurd h2 hnil
    · exact ⟨g, cap, rfl, Row.of_owns hown, hg⟩
  obtain ⟨g, cap, rfl, hR, hg⟩ := hfin
  clear hown hgrow hnil hblk hq
  go_wp2
  go_ret
  exact ⟨g, cap, rfl, hR, hg, hk⟩

theorem _root_.Go.Flo.Row.cellAdd {w : World} {t : TypeId} {g n cap : Nat} {f : Nat → Value} (h : Row w t g n cap f) {j : Nat} (hj : j < n) : w.cell? ((⟨g, 0, none⟩ : Addr).add j) = some (f j) := by
  have e : (⟨g, 0, none⟩ : Addr).add j = ⟨g, j, none⟩ := by unfold Addr.add; split <;> simp_all
  rw [e]
  exact h.cell hj

theorem words_any (w : World) (L : Loc) (S : St) (h : Dev w L S) :
    Calls Try.prog 24 #[.pointer (some ⟨L.d, 0, none⟩)] w (RowPost 44 S.n (u64 S.sure) w) := by
  have c1 := h.c1
  have hc := clone_any w ⟨L.s, 0, none⟩ S.n L.sc S.sure h.n (fun j hj => h.s.cellAdd hj) h.s.lt
  go_enter Try.func24, Try.ntmps24
  go_wp2_with fail
  (with_reducible refine hc.mono ?_)
  rintro e w' ⟨g, cap, rfl, hR, hg, hk⟩
  go_wp2
  go_ret
  exact ⟨g, cap, rfl, hR, hg, hk⟩

/-- A device that was not there. -/
def DevPost (S : St) (w : World) (e : Ending) (w' : World) : Prop :=
  ∃ L : Loc, e = .returned (.pointer (some ⟨L.d, 0, none⟩)) ∧ Dev w' L S ∧ (∀ k ∈ L.own, w.heap.size ≤ k) ∧ Keep [] w w'

/-- A device of words. -/
def ofS (n : Nat) (f : Nat → Int) : St := { n := n, now := f, sure := f, tk := fun _ => 0, fl := fun _ => false, steps := 0, fuse := 0, off := false }

end Go.Proofs.Ytejhdmpobaffcaa
