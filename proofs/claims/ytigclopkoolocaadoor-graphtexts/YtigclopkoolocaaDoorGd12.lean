/-
  scullionlaw12.awake: what every program must know. No conditions.
-/
import Derived.Test.YtigclopkoolocaaDoorGd11
namespace Go.Proofs.YtigclopkoolocaaDoor
open Go.RowKit Go.Flo Go.Bit
set_option maxRecDepth 100000

theorem ref_any (n : Int) (w : World) : Calls Tryd.prog 17 #[.int .i64 n] w fun e w' => e = .returned (.agg #[.int .i64 3, .int .i64 0, .int .u64 0, .int .u64 0, .int .i64 n]) ∧ Keep [] w w' := by
  have kz : (Tryd.prog.info? 36).map (·.size) = some (#[.int .i64 3, .int .i64 0, .int .u64 0, .int .u64 0, .int .i64 n] : Array Value).size := by kernel_rfl
  go_enter Tryd.func17, Tryd.ntmps17
  go_wp2
  (try simp only [Exit.inBlock, Exit.then])
  refine bodyPost_ret (v := .agg #[.int .i64 3, .int .i64 0, .int .u64 0, .int .u64 0, .int .i64 n]) (results_cell_row rfl _ _ w.heap.size 36 #[.int .i64 3, .int .i64 0, .int .u64 0, .int .u64 0, .int .i64 n] (0, 0) _ rfl (heap_alloc_new _ _) Tryd.underlying36 rfl kz) rfl ?_
  exact ⟨rfl, Keep.alloc _ _⟩

def awakeG : Gr := ⟨[⟨0, [⟨1, 1, 0, 0, 0⟩]⟩, ⟨0, [⟨3, 0, 0, 0, 0⟩]⟩], [1], []⟩
theorem awake_trim : trimE awakeG = ⟨[⟨0, [⟨3, 0, 0, 0, 1⟩]⟩, ⟨0, [⟨1, 1, 0, 0, 0⟩]⟩], [0], []⟩ := by
  rw [show trimE awakeG = trimG awakeG from if_pos (by decide)]
  rfl

set_option maxHeartbeats 4000000 in
theorem awake12_any (w : World) : Calls Tryd.prog 7 #[] w fun e w' => e = .returned (.bool true) ∧ Keep [] w w' := by
  have k1 : Keep [] w (w.alloc (.cells #[.int .i64 1, .int .i64 1, .int .u64 0, .int .u64 0, .int .i64 0] 36)) := Keep.alloc _ _
  have b1 := Blk.new w 36 #[.int .i64 1, .int .i64 1, .int .u64 0, .int .u64 0, .int .i64 0]
  obtain ⟨w1, hw1⟩ : ∃ w1, w1 = w.alloc (.cells #[.int .i64 1, .int .i64 1, .int .u64 0, .int .u64 0, .int .i64 0] 36) := ⟨_, rfl⟩
  rw [← hw1] at k1 b1
  have href := ref_any 0 w1
  have H1 := Lib.hid (And.intro k1 b1)
  clear k1 b1
  go_enter Tryd.func7, Tryd.ntmps7
  go_wp2_with fail
  rw [← hw1]
  clear hw1
  (with_reducible refine href.mono ?_)
  rintro e w2 ⟨rfl, k2⟩
  have k3 : Keep [] w2 (w2.alloc (.cells #[.int .i64 3, .int .i64 0, .int .u64 0, .int .u64 0, .int .i64 0] 36)) := Keep.alloc _ _
  have b3 := Blk.new w2 36 #[.int .i64 3, .int .i64 0, .int .u64 0, .int .u64 0, .int .i64 0]
  obtain ⟨w3, hw3⟩ : ∃ w3, w3 = w2.alloc (.cells #[.int .i64 3, .int .i64 0, .int .u64 0, .int .u64 0, .int .i64 0] 36) := ⟨_, rfl⟩
  have hz3 : w3.heap.size = w2.heap.size + 1 := by rw [hw3]; simp
  rw [← hw3] at k3 b3
  have k4 : Keep [] w3 (w3.alloc (.cells #[.int .i64 0, .slice (some ⟨w.heap.size, 0, none⟩) 1 1, .int .i64 0, .slice (some ⟨w2.heap.size, 0, none⟩) 1 1] 33)) := Keep.alloc _ _
  have b4 := Blk.new w3 33 #[.int .i64 0, .slice (some ⟨w.heap.size, 0, none⟩) 1 1, .int .i64 0, .slice (some ⟨w2.heap.size, 0, none⟩) 1 1]
  obtain ⟨w4, hw4⟩ : ∃ w4, w4 = w3.alloc (.cells #[.int .i64 0, .slice (some ⟨w.heap.size, 0, none⟩) 1 1, .int .i64 0, .slice (some ⟨w2.heap.size, 0, none⟩) 1 1] 33) := ⟨_, rfl⟩
  have hz4 : w4.heap.size = w2.heap.size + 2 := by rw [hw4]; simp [hz3]
  rw [← hw4] at k4 b4
  have k5 : Keep [] w4 (w4.alloc (.cells #[.int .i64 1] 3)) := Keep.alloc _ _
  have b5 := Blk.new w4 3 #[.int .i64 1]
  obtain ⟨w5, hw5⟩ : ∃ w5, w5 = w4.alloc (.cells #[.int .i64 1] 3) := ⟨_, rfl⟩
  have hz5 : w5.heap.size = w2.heap.size + 3 := by rw [hw5]; simp [hz4]
  rw [← hw5] at k5 b5
  have k6 : Keep [] w5 (w5.alloc (.cells #[.slice (some ⟨w3.heap.size, 0, none⟩) 2 2, .slice (some ⟨w4.heap.size, 0, none⟩) 1 1, .slice none 0 0] 25)) := Keep.alloc _ _
  have b6 := Blk.new w5 25 #[.slice (some ⟨w3.heap.size, 0, none⟩) 2 2, .slice (some ⟨w4.heap.size, 0, none⟩) 1 1, .slice none 0 0]
  obtain ⟨w6, hw6⟩ : ∃ w6, w6 = w5.alloc (.cells #[.slice (some ⟨w3.heap.size, 0, none⟩) 2 2, .slice (some ⟨w4.heap.size, 0, none⟩) 1 1, .slice none 0 0] 25) := ⟨_, rfl⟩
  rw [← hw6] at k6 b6
  have b1 := (((((H1.out.2.keep k2 (by simp)).keep k3 (by simp)).keep k4 (by simp)).keep k5 (by simp)).keep k6 (by simp))
  have b3 := ((b3.keep k4 (by simp)).keep k5 (by simp)).keep k6 (by simp)
  have b4 := (b4.keep k5 (by simp)).keep k6 (by simp)
  have b5 := b5.keep k6 (by simp)
  have hv1 : Vals w6 (some ⟨w.heap.size, 0, none⟩) 1 1 (fun j => ([⟨1, 1, 0, 0, 0⟩] : List Val).getD j z0) := ⟨by omega, by omega, fun _ => ⟨_, 0, rfl, b1.lt, fun j hj => by
    obtain rfl : j = 0 := by omega
    exact ⟨b1.cell 0, b1.cell 1, b1.cell 2, b1.cell 3, b1.cell 4⟩⟩⟩
  have hv2 : Vals w6 (some ⟨w2.heap.size, 0, none⟩) 1 1 (fun j => ([⟨3, 0, 0, 0, 0⟩] : List Val).getD j z0) := ⟨by omega, by omega, fun _ => ⟨_, 0, rfl, b3.lt, fun j hj => by
    obtain rfl : j = 0 := by omega
    exact ⟨b3.cell 0, b3.cell 1, b3.cell 2, b3.cell 3, b3.cell 4⟩⟩⟩
  have hn : NodL w6 (some ⟨w3.heap.size, 0, none⟩) 2 awakeG.nodes := ⟨by show 2 ≤ 2; omega, by omega, fun _ => ⟨_, 0, rfl, b4.lt, fun i hi => by
    have hi2 : i < 2 := hi
    match i, hi2 with
    | 0, _ => exact ⟨_, _, b4.cell 0, b4.cell 1, hv1⟩
    | 1, _ => exact ⟨_, _, b4.cell 2, b4.cell 3, hv2⟩⟩⟩
  have hr : IntL w6 (some ⟨w4.heap.size, 0, none⟩) 1 awakeG.roots := ⟨by show 1 ≤ 1; omega, fun e => (by cases e), by omega, fun _ => ⟨_, 0, rfl, b5.lt, fun j hj => by
    have hj2 : j < 1 := hj
    obtain rfl : j = 0 := by omega
    exact b5.cell 0⟩⟩
  have hg : GIn w6 (some ⟨w3.heap.size, 0, none⟩) (some ⟨w4.heap.size, 0, none⟩) none 2 1 0 awakeG := ⟨hn, hr, IntL.nil _⟩
  have htr := trim_any w6 _ _ _ _ _ _ awakeG hg ⟨by decide, by decide, fun i hi => by
    have hi2 : i < 2 := hi
    match i, hi2 with
    | 0, _ => decide
    | 1, _ => decide⟩
  rw [awake_trim] at htr
  unfold GrPost at htr
  have y0 := (b6.cell 0).trans (show _ = some (Value.slice (some ⟨w3.heap.size, 0, none⟩) 2 2) from rfl)
  have y1 := (b6.cell 1).trans (show _ = some (Value.slice (some ⟨w4.heap.size, 0, none⟩) 1 1) from rfl)
  have y2 := (b6.cell 2).trans (show _ = some (Value.slice none 0 0) from rfl)
  have HK := Lib.hid (((((H1.out.1.trans k2).trans k3).trans k4).trans k5).trans k6)
  have HW6 := Lib.hid (show w6 = (((w2.alloc (.cells #[.int .i64 3, .int .i64 0, .int .u64 0, .int .u64 0, .int .i64 0] 36)).alloc (.cells #[.int .i64 0, .slice (some ⟨w.heap.size, 0, none⟩) 1 1, .int .i64 0, .slice (some ⟨w2.heap.size, 0, none⟩) 1 1] 33)).alloc (.cells #[.int .i64 1] 3)).alloc (.cells #[.slice (some ⟨w2.heap.size + 1, 0, none⟩) 2 2, .slice (some ⟨w2.heap.size + 2, 0, none⟩) 1 1, .slice none 0 0] 25) by rw [hw6, hw5, hw4, hw3, ← hw3, ← hw4, hz3, hz4, hw4, hw3])
  rw [hz3] at y0
  rw [hz4] at y1
  rw [hz5] at y0 y1 y2
  have HT := Lib.hid (show Calls Tryd.prog 9 #[.agg #[.slice (some ⟨w2.heap.size + 1, 0, none⟩) 2 2, .slice (some ⟨w2.heap.size + 2, 0, none⟩) 1 1, .slice none 0 0]] w6 (fun e w' => ∃ A0 A1 A2 c0 c1 c2, e = .returned (.agg #[.slice A0 2 c0, .slice A1 1 c1, .slice A2 0 c2]) ∧ GIn w' A0 A1 A2 c0 c1 c2 ⟨[⟨0, [⟨3, 0, 0, 0, 1⟩]⟩, ⟨0, [⟨1, 1, 0, 0, 0⟩]⟩], [0], []⟩ ∧ Keep [] w6 w') by rw [← hz3, ← hz4]; exact htr)
  clear htr href k2 k3 k4 k5 k6 b1 b3 b4 b5 b6 hv1 hv2 hn hr hg hw3 hw4 hw5 hw6 hz3 hz4 hz5
  go_upto_region 2 with fail
  have e6 := HW6.out
  rw [show w2.heap.size + 2 = w2.heap.size + 1 + 1 from rfl] at e6
  rw [← e6]
  clear e6 HW6
  have htr := HT.out
  rw [show w2.heap.size + 2 = w2.heap.size + 1 + 1 from rfl] at htr y1
  go_wp2_with fail
  (with_reducible refine htr.mono ?_)
  rintro e w7 ⟨E0, E1, E2, x0, x1, x2, rfl, hg, k7⟩
  clear htr HT y0 y1 y2
  obtain ⟨bN, oN, rfl, hbN, hcN⟩ := hg.nodes.cells (by show 0 < 2; omega)
  obtain ⟨AF, cF, _, d1, hvF⟩ := hcN 0 (by show 0 < 2; omega)
  obtain ⟨bF, oF, rfl, hbF, hcF⟩ := hvF.cells (by show 0 < 1; omega)
  obtain ⟨_, _, _, _, q4⟩ := hcF 0 (by show 0 < 1; omega)
  obtain ⟨bR, oR, rfl, hbR, hcR⟩ := hg.roots.cells (by show 0 < 1; omega)
  have r0 := hcR 0 (by show 0 < 1; omega)
  have nc := hg.nodes.nc
  have nr := hg.roots.nc
  have nf := hvF.nc
  have k8 : Keep [] w7 (w7.alloc (.cells #[.slice (some ⟨bN, oN, none⟩) 2 x0, .slice (some ⟨bR, oR, none⟩) 1 x1, .slice E2 0 x2] 25)) := Keep.alloc _ _
  have d1' : (w7.alloc (.cells #[.slice (some ⟨bN, oN, none⟩) 2 x0, .slice (some ⟨bR, oR, none⟩) 1 x1, .slice E2 0 x2] 25)).cell? ⟨bN, oN + 1, none⟩ = some (.slice (some ⟨bF, oF, none⟩) 1 cF) := (k8.cell (p := ⟨bN, _, none⟩) hbN (by simp)).trans (by simpa using d1)
  have q4' : (w7.alloc (.cells #[.slice (some ⟨bN, oN, none⟩) 2 x0, .slice (some ⟨bR, oR, none⟩) 1 x1, .slice E2 0 x2] 25)).cell? ⟨bF, oF + 4, none⟩ = some (.int .i64 1) := (k8.cell (p := ⟨bF, _, none⟩) hbF (by simp)).trans (by simpa using q4)
  have r0' : (w7.alloc (.cells #[.slice (some ⟨bN, oN, none⟩) 2 x0, .slice (some ⟨bR, oR, none⟩) 1 x1, .slice E2 0 x2] 25)).cell? ⟨bR, oR, none⟩ = some (.int .i64 0) := (k8.cell (p := ⟨bR, _, none⟩) hbR (by simp)).trans (by simpa using r0)
  have HE := Lib.hid ((HK.out.trans k7).trans k8)
  clear hg k7 k8 hcN hvF hcF hcR d1 q4 r0 nc nr nf
  go_wp2
  go_ret
  exact ⟨rfl, HE.out⟩
end Go.Proofs.YtigclopkoolocaaDoor
