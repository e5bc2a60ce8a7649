/-
  Words, Copy, Of, New: devices and rows that are made. No conditions but what a device is.
-/
import Derived.Test.YtjicfjnkammmcaaOps
import Derived.OwnWalk
import Derived.Deep.AppendLies
import Derived.Deep.RegionWith
namespace Go.Proofs.Ytjicfjnkammmcaa
open Go.RowKit Go.Flo

theorem parts28 : (Try.prog.info? 28).map (fun i => (i.zero, i.size, i.bytes)) = some (some (.int .u64 0), 1, 8) := by kernel_rfl
theorem parts4 : (Try.prog.info? 4).map (fun i => (i.zero, i.size, i.bytes)) = some (some (.bool false), 1, 1) := by kernel_rfl

/-- A row of its own, in a block that was not there. -/
def RowPost (t : TypeId) (n : Nat) (f : Nat → Value) (w : World) (e : Ending) (w' : World) : Prop :=
  ∃ g cap, e = .returned (.slice (some ⟨g, 0, none⟩) n cap) ∧ Row w' t g n cap f ∧ w.heap.size ≤ g ∧ Keep [] w w'

set_option maxHeartbeats 1000000 in
theorem clone_any (w : World) (ad : Addr) (n c : Nat) (f : Nat → Int) (hn : n ≤ 65536) (hc : ∀ j, j < n → w.cell? (ad.add j) = some (u64 f j)) (hb : ad.block < w.heap.size) :
    Calls Try.prog 39 #[.slice (some ad) n c] w (RowPost 28 n (u64 f) w) := by
  obtain ⟨i0, hi, hz0, hz1, hz2⟩ := info_parts parts28
  have HC := Lib.hid hc
  clear hc
  have hq : ∀ W : World, (binOp .eql 48 (.slice (some ad) n c) (.slice none 0 0)).run Try.prog W = .ok (.bool false) W := fun W => Lib.run_eql_slice_nil W 48 28 (some ad) n c 0 0 Try.underlying48
  go_enter Try.func39, Try.ntmps39
  go_wp2_with (at_builtin; refine wpList_append_own_at _ rfl (.tmp 5) (.tmp 6) 48 rfl w.heap.size 28 i0 (.int .u64 0) 1 8 Try.underlying48 hi hz0 hz1 hz2 rfl (by omega) (.slice (some ⟨w.heap.size, 0, none⟩) 0 0) 0 [] rfl (World.ownsRow_made w #[] 0 (Nat.le_refl _) (by simp [maxLen]) rfl) ad n c ((List.range n).map (u64 f)) rfl ?c1 ?c2 ?c3 ?c4 ?c5 ?c6 ?_)
  case c1 => simp
  case c2 =>
    intro j u hu
    have hj : j < n := by
      have := (List.getElem?_eq_some_iff.1 hu).1
      simpa using this
    have hu' : u64 f j = u := by simpa [hj] using hu
    rw [World.cell?_alloc_lt _ _ _ (by rw [add_block]; exact hb), HC.out j hj, hu']
  case c3 =>
    intro u hu
    simp only [List.mem_map, List.mem_range] at hu
    obtain ⟨j, _, rfl⟩ := hu
    rfl
  case c4 => simp [maxLen]; omega
  case c5 => omega
  case c6 => simp
  intro v' w' hown hgrow hnil hblk
  have hk : Keep [] w w' := by
    refine ⟨hgrow.os, hgrow.tape, hgrow.output, ?_, fun k hk _ => ?_⟩
    · have := hgrow.size
      simp at this
      omega
    · rw [hgrow.block k (by simp; omega) (by simp [Value.ownBlock]; omega)]
      exact Below.heap_alloc _ _ _ hk
  have hfin : ∃ g cap, v' = .slice (some ⟨g, 0, none⟩) n cap ∧ Row w' 28 g n cap (u64 f) ∧ w.heap.size ≤ g := by
    obtain ⟨_, h2⟩ := id hown
    rcases h2 with ⟨h2, _⟩ | ⟨g, cap, cur, rfl, hg, _⟩
    · exact absurd h2 hnil
    · exact ⟨g, cap, rfl, Row.of_owns hown, hg⟩
  obtain ⟨g, cap, rfl, hR, hg⟩ := hfin
  clear hown hgrow hnil hblk hq
  go_wp2
  go_ret
  exact ⟨g, cap, rfl, hR, hg, hk⟩
set_option maxHeartbeats 1000000 in
theorem cloneb_any (w : World) (ad : Addr) (n c : Nat) (f : Nat → Bool) (hn : n ≤ 65536) (hc : ∀ j, j < n → w.cell? (ad.add j) = some (bl f j)) (hb : ad.block < w.heap.size) :
    Calls Try.prog 40 #[.slice (some ad) n c] w (RowPost 4 n (bl f) w) := by
  obtain ⟨i0, hi, hz0, hz1, hz2⟩ := info_parts parts4
  have HC := Lib.hid hc
  clear hc
  have hq : ∀ W : World, (binOp .eql 66 (.slice (some ad) n c) (.slice none 0 0)).run Try.prog W = .ok (.bool false) W := fun W => Lib.run_eql_slice_nil W 66 4 (some ad) n c 0 0 Try.underlying66
  go_enter Try.func40, Try.ntmps40
  go_wp2_with (at_builtin; refine wpList_append_own_at _ rfl (.tmp 5) (.tmp 6) 66 rfl w.heap.size 4 i0 (.bool false) 1 1 Try.underlying66 hi hz0 hz1 hz2 rfl (by omega) (.slice (some ⟨w.heap.size, 0, none⟩) 0 0) 0 [] rfl (World.ownsRow_made w #[] 0 (Nat.le_refl _) (by simp [maxLen]) rfl) ad n c ((List.range n).map (bl f)) rfl ?c1 ?c2 ?c3 ?c4 ?c5 ?c6 ?_)
  case c1 => simp
  case c2 =>
    intro j u hu
    have hj : j < n := by
      have := (List.getElem?_eq_some_iff.1 hu).1
      simpa using this
    have hu' : bl f j = u := by simpa [hj] using hu
    rw [World.cell?_alloc_lt _ _ _ (by rw [add_block]; exact hb), HC.out j hj, hu']
  case c3 =>
    intro u hu
    simp only [List.mem_map, List.mem_range] at hu
    obtain ⟨j, _, rfl⟩ := hu
    rfl
  case c4 => simp [maxLen]; omega
  case c5 => omega
  case c6 => simp
  intro v' w' hown hgrow hnil hblk
  have hk : Keep [] w w' := by
    refine ⟨hgrow.os, hgrow.tape, hgrow.output, ?_, fun k hk _ => ?_⟩
    · have := hgrow.size
      simp at this
      omega
    · rw [hgrow.block k (by simp; omega) (by simp [Value.ownBlock]; omega)]
      exact Below.heap_alloc _ _ _ hk
  have hfin : ∃ g cap, v' = .slice (some ⟨g, 0, none⟩) n cap ∧ Row w' 4 g n cap (bl f) ∧ w.heap.size ≤ g := by
    obtain ⟨_, h2⟩ := id hown
    rcases h2 with ⟨h2, _⟩ | ⟨g, cap, cur, rfl, hg, _⟩
    · exact absurd h2 hnil
    · exact ⟨g, cap, rfl, Row.of_owns hown, hg⟩
  obtain ⟨g, cap, rfl, hR, hg⟩ := hfin
  clear hown hgrow hnil hblk hq
  go_wp2
  go_ret
  exact ⟨g, cap, rfl, hR, hg, hk⟩

theorem _root_.Go.Flo.Row.cellAdd {w : World} {t : TypeId} {g n cap : Nat} {f : Nat → Value} (h : Row w t g n cap f) {j : Nat} (hj : j < n) : w.cell? ((⟨g, 0, none⟩ : Addr).add j) = some (f j) := by
  have e : (⟨g, 0, none⟩ : Addr).add j = ⟨g, j, none⟩ := by unfold Addr.add; split <;> simp_all
  rw [e]
  exact h.cell hj

theorem words_any (w : World) (L : Loc) (S : St) (h : Dev w L S) :
    Calls Try.prog 28 #[.pointer (some ⟨L.d, 0, none⟩)] w (RowPost 28 S.n (u64 S.sure) w) := by
  have c1 := h.c1
  have hc := clone_any w ⟨L.s, 0, none⟩ S.n L.sc S.sure h.n (fun j hj => h.s.cellAdd hj) h.s.lt
  go_enter Try.func28, Try.ntmps28
  go_wp2_with fail
  (with_reducible refine hc.mono ?_)
  rintro e w' ⟨g, cap, rfl, hR, hg, hk⟩
  go_wp2
  go_ret
  exact ⟨g, cap, rfl, hR, hg, hk⟩

/-- A device that was not there. -/
def DevPost (S : St) (w : World) (e : Ending) (w' : World) : Prop :=
  ∃ L : Loc, e = .returned (.pointer (some ⟨L.d, 0, none⟩)) ∧ Dev w' L S ∧ (∀ k ∈ L.own, w.heap.size ≤ k) ∧ Keep [] w w'

set_option maxHeartbeats 2000000 in
theorem copy_any (w : World) (L : Loc) (S : St) (h : Dev w L S) :
    Calls Try.prog 16 #[.pointer (some ⟨L.d, 0, none⟩)] w (DevPost S w) := by
  have c0 := h.c0
  have c1 := h.c1
  have c2 := h.c2
  have c3 := h.c3
  have c4 := h.c4
  have c5 := h.c5
  have c6 := h.c6
  have hlt := h.blk.lt
  have hm : nl S.n ≤ 65536 := by have := h.n; unfold nl; omega
  have hfr : ∀ k ∈ L.own, k ≠ w.heap.size := fun k hk e => by have := h.lt k hk; omega
  go_enter Try.func16, Try.ntmps16
  go_wp2_with fail
  have h1 : Dev (w.alloc (.cells #[.slice (some ⟨L.r, 0, none⟩) S.n L.rc, .slice (some ⟨L.s, 0, none⟩) S.n L.sc, .slice (some ⟨L.t, 0, none⟩) S.n L.tc, .slice (some ⟨L.f, 0, none⟩) (nl S.n) L.fc, .int .i64 S.steps, .int .i64 S.fuse, .bool S.off] 68)) L S := h.keep (own := []) (Keep.alloc _ _) (by simp)
  have b1 := Blk.new w 68 #[.slice (some ⟨L.r, 0, none⟩) S.n L.rc, .slice (some ⟨L.s, 0, none⟩) S.n L.sc, .slice (some ⟨L.t, 0, none⟩) S.n L.tc, .slice (some ⟨L.f, 0, none⟩) (nl S.n) L.fc, .int .i64 S.steps, .int .i64 S.fuse, .bool S.off]
  have k1 : Keep [] w (w.alloc (.cells #[.slice (some ⟨L.r, 0, none⟩) S.n L.rc, .slice (some ⟨L.s, 0, none⟩) S.n L.sc, .slice (some ⟨L.t, 0, none⟩) S.n L.tc, .slice (some ⟨L.f, 0, none⟩) (nl S.n) L.fc, .int .i64 S.steps, .int .i64 S.fuse, .bool S.off] 68)) := Keep.alloc _ _
  have s1 : w.heap.size < (w.alloc (.cells #[.slice (some ⟨L.r, 0, none⟩) S.n L.rc, .slice (some ⟨L.s, 0, none⟩) S.n L.sc, .slice (some ⟨L.t, 0, none⟩) S.n L.tc, .slice (some ⟨L.f, 0, none⟩) (nl S.n) L.fc, .int .i64 S.steps, .int .i64 S.fuse, .bool S.off] 68)).heap.size := by simp
  generalize w.alloc (.cells #[.slice (some ⟨L.r, 0, none⟩) S.n L.rc, .slice (some ⟨L.s, 0, none⟩) S.n L.sc, .slice (some ⟨L.t, 0, none⟩) S.n L.tc, .slice (some ⟨L.f, 0, none⟩) (nl S.n) L.fc, .int .i64 S.steps, .int .i64 S.fuse, .bool S.off] 68) = wa at *
  clear c0 c1 c2 c3 c4 c5 c6 hlt
  have hB : w.heap.size = w.heap.size := rfl
  have hsz : ∀ k, k ∈ L.own → k < w.heap.size := h.lt
  generalize hBB : w.heap.size = B at *
  clear hB
  have n1 : ¬ L.d = B := hfr L.d (by simp [Loc.own])
  have n2 : ¬ B = L.d := fun e => n1 e.symm
  have own1 : ∀ k ∈ [B], k ∉ L.own := by
    intro k hk hm
    rw [List.mem_singleton] at hk
    exact hfr k hm hk
  have HB := Lib.hid hBB
  clear hBB
  have hc0 := clone_any wa ⟨L.r, 0, none⟩ S.n L.rc S.now h1.n (fun j hj => h1.r.cellAdd hj) h1.r.lt
  (with_reducible refine hc0.mono ?_)
  rintro e w1 ⟨g0, cap0, rfl, R0, G0, K0⟩
  clear hc0
  have D0 := h1.keep (own := []) K0 (by simp)
  have E0 := b1.keep K0 (by simp)
  have y0 := (E0.cell 0).trans rfl
  have z0 := E0.frozen 0
  have s1' := K0.size
  have x0 := D0.c1
  have J0 : Keep [B] w1 (w1.setCell ⟨B, 0, none⟩ (.slice (some ⟨g0, 0, none⟩) S.n cap0)) := Keep.setCell _ _ (by simp) _
  have h2 : Dev (w1.setCell ⟨B, 0, none⟩ (.slice (some ⟨g0, 0, none⟩) S.n cap0)) L S := D0.keep J0 own1
  have b2 := E0.set_ 0 (.slice (some ⟨g0, 0, none⟩) S.n cap0)
  have k2 : Keep [B] w (w1.setCell ⟨B, 0, none⟩ (.slice (some ⟨g0, 0, none⟩) S.n cap0)) := (k1.of_nil.trans K0.of_nil).trans J0
  have N0 : ¬ g0 = B := by omega
  have T0_0 := R0.keep J0 (by simpa using N0)
  have s2 : B < (w1.setCell ⟨B, 0, none⟩ (.slice (some ⟨g0, 0, none⟩) S.n cap0)).heap.size := Nat.lt_of_lt_of_le s1 (Nat.le_trans s1' J0.size)
  clear R0 K0 J0 D0 E0
  go_wp2_with fail
  generalize (w1.setCell ⟨B, 0, none⟩ (.slice (some ⟨g0, 0, none⟩) S.n cap0)) = v1 at *
  clear y0 z0 x0
  have hc1 := clone_any v1 ⟨L.s, 0, none⟩ S.n L.sc S.sure h1.n (fun j hj => h2.s.cellAdd hj) h2.s.lt
  (with_reducible refine hc1.mono ?_)
  rintro e w2 ⟨g1, cap1, rfl, R1, G1, K1⟩
  clear hc1
  have D1 := h2.keep (own := []) K1 (by simp)
  have E1 := b2.keep K1 (by simp)
  have y1 := (E1.cell 1).trans rfl
  have z1 := E1.frozen 1
  have s2' := K1.size
  have x1 := D1.c2
  have J1 : Keep [B] w2 (w2.setCell ⟨B, 1, none⟩ (.slice (some ⟨g1, 0, none⟩) S.n cap1)) := Keep.setCell _ _ (by simp) _
  have h3 : Dev (w2.setCell ⟨B, 1, none⟩ (.slice (some ⟨g1, 0, none⟩) S.n cap1)) L S := D1.keep J1 own1
  have b3 := E1.set_ 1 (.slice (some ⟨g1, 0, none⟩) S.n cap1)
  have k3 : Keep [B] w (w2.setCell ⟨B, 1, none⟩ (.slice (some ⟨g1, 0, none⟩) S.n cap1)) := (k2.trans K1.of_nil).trans J1
  have N1 : ¬ g1 = B := by omega
  have T1_1 := R1.keep J1 (by simpa using N1)
  have T0_1 := (T0_0.keep K1 (by simp)).keep J1 (by simpa using N0)
  have M0_1 := T0_0.lt
  have s3 : B < (w2.setCell ⟨B, 1, none⟩ (.slice (some ⟨g1, 0, none⟩) S.n cap1)).heap.size := Nat.lt_of_lt_of_le s2 (Nat.le_trans s2' J1.size)
  clear R1 K1 J1 D1 E1
  go_wp2_with fail
  generalize (w2.setCell ⟨B, 1, none⟩ (.slice (some ⟨g1, 0, none⟩) S.n cap1)) = v2 at *
  clear y1 z1 x1
  have hc2 := clone_any v2 ⟨L.t, 0, none⟩ S.n L.tc S.tk h1.n (fun j hj => h3.t.cellAdd hj) h3.t.lt
  (with_reducible refine hc2.mono ?_)
  rintro e w3 ⟨g2, cap2, rfl, R2, G2, K2⟩
  clear hc2
  have D2 := h3.keep (own := []) K2 (by simp)
  have E2 := b3.keep K2 (by simp)
  have y2 := (E2.cell 2).trans rfl
  have z2 := E2.frozen 2
  have s3' := K2.size
  have x2 := D2.c3
  have J2 : Keep [B] w3 (w3.setCell ⟨B, 2, none⟩ (.slice (some ⟨g2, 0, none⟩) S.n cap2)) := Keep.setCell _ _ (by simp) _
  have h4 : Dev (w3.setCell ⟨B, 2, none⟩ (.slice (some ⟨g2, 0, none⟩) S.n cap2)) L S := D2.keep J2 own1
  have b4 := E2.set_ 2 (.slice (some ⟨g2, 0, none⟩) S.n cap2)
  have k4 : Keep [B] w (w3.setCell ⟨B, 2, none⟩ (.slice (some ⟨g2, 0, none⟩) S.n cap2)) := (k3.trans K2.of_nil).trans J2
  have N2 : ¬ g2 = B := by omega
  have T2_2 := R2.keep J2 (by simpa using N2)
  have T0_2 := (T0_1.keep K2 (by simp)).keep J2 (by simpa using N0)
  have M0_2 := T0_1.lt
  have T1_2 := (T1_1.keep K2 (by simp)).keep J2 (by simpa using N1)
  have M1_2 := T1_1.lt
  have s4 : B < (w3.setCell ⟨B, 2, none⟩ (.slice (some ⟨g2, 0, none⟩) S.n cap2)).heap.size := Nat.lt_of_lt_of_le s3 (Nat.le_trans s3' J2.size)
  clear R2 K2 J2 D2 E2
  go_wp2_with fail
  generalize (w3.setCell ⟨B, 2, none⟩ (.slice (some ⟨g2, 0, none⟩) S.n cap2)) = v3 at *
  clear y2 z2 x2
  have hc3 := cloneb_any v3 ⟨L.f, 0, none⟩ (nl S.n) L.fc S.fl hm (fun j hj => h4.f.cellAdd hj) h4.f.lt
  (with_reducible refine hc3.mono ?_)
  rintro e w4 ⟨g3, cap3, rfl, R3, G3, K3⟩
  clear hc3
  have D3 := h4.keep (own := []) K3 (by simp)
  have E3 := b4.keep K3 (by simp)
  have y3 := (E3.cell 3).trans rfl
  have z3 := E3.frozen 3
  have s4' := K3.size
  have J3 : Keep [B] w4 (w4.setCell ⟨B, 3, none⟩ (.slice (some ⟨g3, 0, none⟩) (nl S.n) cap3)) := Keep.setCell _ _ (by simp) _
  have h5 : Dev (w4.setCell ⟨B, 3, none⟩ (.slice (some ⟨g3, 0, none⟩) (nl S.n) cap3)) L S := D3.keep J3 own1
  have b5 := E3.set_ 3 (.slice (some ⟨g3, 0, none⟩) (nl S.n) cap3)
  have k5 : Keep [B] w (w4.setCell ⟨B, 3, none⟩ (.slice (some ⟨g3, 0, none⟩) (nl S.n) cap3)) := (k4.trans K3.of_nil).trans J3
  have N3 : ¬ g3 = B := by omega
  have T3_3 := R3.keep J3 (by simpa using N3)
  have T0_3 := (T0_2.keep K3 (by simp)).keep J3 (by simpa using N0)
  have M0_3 := T0_2.lt
  have T1_3 := (T1_2.keep K3 (by simp)).keep J3 (by simpa using N1)
  have M1_3 := T1_2.lt
  have T2_3 := (T2_2.keep K3 (by simp)).keep J3 (by simpa using N2)
  have M2_3 := T2_2.lt
  have s5 : B < (w4.setCell ⟨B, 3, none⟩ (.slice (some ⟨g3, 0, none⟩) (nl S.n) cap3)).heap.size := Nat.lt_of_lt_of_le s4 (Nat.le_trans s4' J3.size)
  clear R3 K3 J3 D3 E3
  go_wp2
  go_ret
  refine ⟨⟨B, g0, g1, g2, g3, cap0, cap1, cap2, cap3⟩, rfl, ?_, ?_, ?_⟩
  · exact { blk := b5, r := T0_3, s := T1_3, t := T2_3, f := T3_3, dr := Ne.symm N0, ds := Ne.symm N1, dt := Ne.symm N2, df := Ne.symm N3, rs := by dsimp only; omega, rt := by dsimp only; omega, rf := by dsimp only; omega, st := by dsimp only; omega, sf := by dsimp only; omega, tf := by dsimp only; omega, n := h1.n, fuse0 := h1.fuse0, fuse1 := h1.fuse1 }
  · have e := HB.out
    simp only [Loc.own, List.mem_cons, List.not_mem_nil, or_false]
    rintro k (rfl | rfl | rfl | rfl | rfl) <;> omega
  · have e := HB.out
    exact k5.mono (fun k hk hm => by rw [List.mem_singleton] at hm; omega)

/-- A device of words. -/
def ofS (n : Nat) (f : Nat → Int) : St := { n := n, now := f, sure := f, tk := fun _ => 0, fl := fun _ => false, steps := 0, fuse := 0, off := false }

end Go.Proofs.Ytjicfjnkammmcaa
