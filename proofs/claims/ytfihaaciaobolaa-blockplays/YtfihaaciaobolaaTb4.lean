/-
  scullionlaw7.config: a config of few blocks of each class. No conditions.
-/
import Derived.Test.YtfihaaciaobolaaTb3
import Derived.LoopN
namespace Go.Proofs.Ytfihaaciaobolaa
open Go.RowKit Go.Flo Go.Bit Go.Bmp
set_option maxRecDepth 100000

/-- How many blocks of a class. -/
def bk (x : Int) : Nat := (IntKind.u64.wrap x % 90).toNat

theorem u64_range (x : Int) : 0 ≤ IntKind.u64.wrap x ∧ IntKind.u64.wrap x < 18446744073709551616 := by
  rw [IntKind.wrap_u64]
  omega

theorem bk_lt (x : Int) : bk x < 90 := by unfold bk; omega

theorem bk_mod (x : Int) : (IntKind.u64.wrap x).tmod 90 = (bk x : Int) := by
  have := u64_range x
  unfold bk
  rw [Int.tmod_eq_emod_of_nonneg this.1]
  omega

/-- The law's config. -/
def cfC (a0 a1 a2 a3 : Int) : Cf := ⟨1, if bk a0 = 0 ∧ bk a1 = 0 ∧ bk a2 = 0 ∧ bk a3 = 0 then 1 else bk a0, bk a1, bk a2, bk a3, 1, 0, 40⟩

theorem cfC_ok (a0 a1 a2 a3 : Int) : (cfC a0 a1 a2 a3).Ok := by
  have h0 := bk_lt a0
  have h1 := bk_lt a1
  have h2 := bk_lt a2
  have h3 := bk_lt a3
  refine ⟨by simp [cfC], by simp [cfC], ?_, by simp only [cfC]; omega, by simp only [cfC]; omega, by simp only [cfC]; omega, ?_, by simp [cfC], by simp [cfC], by simp [cfC], by simp [cfC], by simp [cfC], by simp [cfC]⟩
  · simp only [cfC]; split <;> omega
  · simp only [cfC]; split <;> omega

theorem cfC_all (a0 a1 a2 a3 : Int) : (cfC a0 a1 a2 a3).all ≤ 360 := by
  have h0 := bk_lt a0
  have h1 := bk_lt a1
  have h2 := bk_lt a2
  have h3 := bk_lt a3
  unfold Cf.all
  simp only [cfC]
  split <;> omega

theorem oneK : MayKs 1 (fun _ => 1) (fun _ _ => 1) := by
  refine ⟨by decide, by decide, fun i _ => (show MayK 1 (fun _ => 1) from ⟨by decide, by decide, fun j _ => Or.inl rfl, by decide⟩)⟩

/-- A config that was not there. -/
def CnPost (b0 b1 b2 b3 : Nat) (w : World) (e : Ending) (w' : World) : Prop :=
  ∃ g, e = .returned (.agg #[.slice (some ⟨g, 0, none⟩) 1 1, .int .i64 b0, .int .i64 b1, .int .i64 b2, .int .i64 b3, .int .i64 1, .int .i64 0, .int .i64 40]) ∧ KRow w' (some ⟨g, 0, none⟩) 1 1 (fun _ => 1) (fun _ _ => 1) ∧ Keep [] w w'

theorem cfg_row {w' : World} {G F : Nat} (h1 : Blk w' G 71 #[.slice (some ⟨F, 0, none⟩) 1 1]) (h2 : Blk w' F 3 #[.int .i64 1]) : KRow w' (some ⟨G, 0, none⟩) 1 1 (fun _ => 1) (fun _ _ => 1) :=
  ⟨Nat.le_refl _, by omega, fun _ => ⟨G, 0, rfl, h1.lt, fun i hi => by
    have hi0 : i = 0 := by omega
    subst hi0
    exact ⟨some ⟨F, 0, none⟩, 1, h1.cell 0, Nat.le_refl _, fun e => by (cases e), by omega, fun _ => ⟨F, 0, rfl, h2.lt, fun j hj => by
      have hj0 : j = 0 := by omega
      subst hj0
      exact h2.cell 0⟩⟩⟩⟩

/-- What config makes first. -/
structure CnW (w wx : World) (H : Nat) (a0 a1 a2 a3 : Int) (c : Array Value) : Prop where
  ha : Blk wx H 22 #[.int .i64 a0, .int .i64 a1, .int .i64 a2, .int .i64 a3]
  hr : Blk wx (H + 1) 27 #[.slice none 0 0, .int .i64 0, .int .i64 0, .int .i64 0, .int .i64 0, .int .i64 0, .int .i64 0, .int .i64 0]
  hf : Blk wx (H + 2) 3 #[.int .i64 1]
  hk : Blk wx (H + 3) 71 #[.slice (some ⟨H + 2, 0, none⟩) 1 1]
  hc : Blk wx (H + 4) 27 c
  kp : Keep [] w wx
  hs : H = w.heap.size

theorem CnW.start (w : World) (a0 a1 a2 a3 : Int) (H : Nat) (hH : H = w.heap.size) : CnW w (((((w.alloc (.cells #[.int .i64 a0, .int .i64 a1, .int .i64 a2, .int .i64 a3] 22)).alloc (.cells #[.slice none 0 0, .int .i64 0, .int .i64 0, .int .i64 0, .int .i64 0, .int .i64 0, .int .i64 0, .int .i64 0] 27)).alloc (.cells #[.int .i64 1] 3)).alloc (.cells #[.slice (some ⟨w.heap.size + 1 + 1, 0, none⟩) 1 1] 71)).alloc (.cells #[.slice (some ⟨w.heap.size + 1 + 1 + 1, 0, none⟩) 1 1, .int .i64 0, .int .i64 0, .int .i64 0, .int .i64 0, .int .i64 1, .int .i64 0, .int .i64 40] 27)) H a0 a1 a2 a3 #[.slice (some ⟨H + 3, 0, none⟩) 1 1, .int .i64 0, .int .i64 0, .int .i64 0, .int .i64 0, .int .i64 1, .int .i64 0, .int .i64 40] := by
  subst hH
  have x0 := Blk.new w 22 #[.int .i64 a0, .int .i64 a1, .int .i64 a2, .int .i64 a3]
  generalize e1 : w.alloc (.cells #[.int .i64 a0, .int .i64 a1, .int .i64 a2, .int .i64 a3] 22) = w1 at *
  have s1 : w1.heap.size = w.heap.size + 1 := by rw [← e1]; simp
  have k1 : Keep [] w w1 := by rw [← e1]; exact Keep.alloc _ _
  have x1 := Blk.new w1 27 #[.slice none 0 0, .int .i64 0, .int .i64 0, .int .i64 0, .int .i64 0, .int .i64 0, .int .i64 0, .int .i64 0]
  generalize e2 : w1.alloc (.cells #[.slice none 0 0, .int .i64 0, .int .i64 0, .int .i64 0, .int .i64 0, .int .i64 0, .int .i64 0, .int .i64 0] 27) = w2 at *
  have s2 : w2.heap.size = w1.heap.size + 1 := by rw [← e2]; simp
  have k2 : Keep [] w1 w2 := by rw [← e2]; exact Keep.alloc _ _
  have x2 := Blk.new w2 3 #[.int .i64 1]
  generalize e3 : w2.alloc (.cells #[.int .i64 1] 3) = w3 at *
  have s3 : w3.heap.size = w2.heap.size + 1 := by rw [← e3]; simp
  have k3 : Keep [] w2 w3 := by rw [← e3]; exact Keep.alloc _ _
  have x3 := Blk.new w3 71 #[.slice (some ⟨w.heap.size + 1 + 1, 0, none⟩) 1 1]
  generalize e4 : w3.alloc (.cells #[.slice (some ⟨w.heap.size + 1 + 1, 0, none⟩) 1 1] 71) = w4 at *
  have s4 : w4.heap.size = w3.heap.size + 1 := by rw [← e4]; simp
  have k4 : Keep [] w3 w4 := by rw [← e4]; exact Keep.alloc _ _
  have x4 := Blk.new w4 27 #[.slice (some ⟨w.heap.size + 1 + 1 + 1, 0, none⟩) 1 1, .int .i64 0, .int .i64 0, .int .i64 0, .int .i64 0, .int .i64 1, .int .i64 0, .int .i64 40]
  generalize e5 : w4.alloc (.cells #[.slice (some ⟨w.heap.size + 1 + 1 + 1, 0, none⟩) 1 1, .int .i64 0, .int .i64 0, .int .i64 0, .int .i64 0, .int .i64 1, .int .i64 0, .int .i64 40] 27) = w5 at *
  have s5 : w5.heap.size = w4.heap.size + 1 := by rw [← e5]; simp
  have k5 : Keep [] w4 w5 := by rw [← e5]; exact Keep.alloc _ _
  have z1 : w1.heap.size = w.heap.size + 1 := s1
  have z2 : w2.heap.size = w.heap.size + 2 := by omega
  have z3 : w3.heap.size = w.heap.size + 3 := by omega
  have z4 : w4.heap.size = w.heap.size + 4 := by omega
  rw [z1] at x1
  rw [z2] at x2
  rw [z3] at x3
  rw [z4] at x4
  exact ⟨(((x0.keep k2 (by simp)).keep k3 (by simp)).keep k4 (by simp)).keep k5 (by simp), ((x1.keep k3 (by simp)).keep k4 (by simp)).keep k5 (by simp), (x2.keep k4 (by simp)).keep k5 (by simp), x3.keep k5 (by simp), x4, (((k1.trans k2).trans k3).trans k4).trans k5, rfl⟩

theorem CnW.set_ {w wx : World} {H : Nat} {a0 a1 a2 a3 : Int} {c : Array Value} (h : CnW w wx H a0 a1 a2 a3 c) (i : Nat) (u : Value) : CnW w (wx.setCell ⟨H + 4, i, none⟩ u) H a0 a1 a2 a3 (c.setIfInBounds i u) := by
  have ks : Keep [H + 4] wx (wx.setCell ⟨H + 4, i, none⟩ u) := Keep.setCell _ _ (by simp) _
  exact ⟨h.ha.keep ks (by simp), h.hr.keep ks (by simp), h.hf.keep ks (by simp), h.hk.keep ks (by simp), h.hc.set_ i u, h.kp.since ks (by simp; have := h.hs; omega), h.hs⟩

set_option maxHeartbeats 1000000 in
theorem config_core (w : World) (a0 a1 a2 a3 : Int) (b0 b1 b2 b3 : Nat) (l0 : b0 < 90) (l1 : b1 < 90) (l2 : b2 < 90) (l3 : b3 < 90) (m0 : (IntKind.u64.wrap a0).tmod 90 = b0) (m1 : (IntKind.u64.wrap a1).tmod 90 = b1) (m2 : (IntKind.u64.wrap a2).tmod 90 = b2) (m3 : (IntKind.u64.wrap a3).tmod 90 = b3) (v0 : Nat) (hv0 : v0 = if b0 = 0 ∧ b1 = 0 ∧ b2 = 0 ∧ b3 = 0 then 1 else b0) :
    Calls Try.prog 9 #[.agg #[.int .i64 a0, .int .i64 a1, .int .i64 a2, .int .i64 a3]] w (CnPost v0 b1 b2 b3 w) := by
  obtain ⟨X0, hX0⟩ : ∃ X, IntKind.u64.wrap a0 = X := ⟨_, rfl⟩
  obtain ⟨X1, hX1⟩ : ∃ X, IntKind.u64.wrap a1 = X := ⟨_, rfl⟩
  obtain ⟨X2, hX2⟩ : ∃ X, IntKind.u64.wrap a2 = X := ⟨_, rfl⟩
  obtain ⟨X3, hX3⟩ : ∃ X, IntKind.u64.wrap a3 = X := ⟨_, rfl⟩
  rw [hX0] at m0
  rw [hX1] at m1
  rw [hX2] at m2
  rw [hX3] at m3
  have hst := CnW.start w a0 a1 a2 a3 w.heap.size rfl
  obtain ⟨H, hH⟩ : ∃ H, w.heap.size = H := ⟨_, rfl⟩
  rw [hH] at hst
  obtain ⟨wq, hwq⟩ : ∃ wq, wq = ((((w.alloc (.cells #[.int .i64 a0, .int .i64 a1, .int .i64 a2, .int .i64 a3] 22)).alloc (.cells #[.slice none 0 0, .int .i64 0, .int .i64 0, .int .i64 0, .int .i64 0, .int .i64 0, .int .i64 0, .int .i64 0] 27)).alloc (.cells #[.int .i64 1] 3)).alloc (.cells #[.slice (some ⟨H + 1 + 1, 0, none⟩) 1 1] 71)).alloc (.cells #[.slice (some ⟨H + 1 + 1 + 1, 0, none⟩) 1 1, .int .i64 0, .int .i64 0, .int .i64 0, .int .i64 0, .int .i64 1, .int .i64 0, .int .i64 40] 27) := ⟨_, rfl⟩
  have hC : CnW w wq H a0 a1 a2 a3 _ := hwq ▸ hst
  clear hst
  have d0 : wq.cell? ⟨H, 0, none⟩ = some (Value.int .i64 a0) := hC.ha.cell 0
  have d1 : wq.cell? ⟨H, 1, none⟩ = some (Value.int .i64 a1) := hC.ha.cell 1
  have d2 : wq.cell? ⟨H, 2, none⟩ = some (Value.int .i64 a2) := hC.ha.cell 2
  have d3 : wq.cell? ⟨H, 3, none⟩ = some (Value.int .i64 a3) := hC.ha.cell 3
  have c1 : wq.cell? ⟨H + 1 + 1 + 1 + 1, 1, none⟩ = some (Value.int .i64 0) := hC.hc.cell 1
  have c2 : wq.cell? ⟨H + 1 + 1 + 1 + 1, 2, none⟩ = some (Value.int .i64 0) := hC.hc.cell 2
  have c3 : wq.cell? ⟨H + 1 + 1 + 1 + 1, 3, none⟩ = some (Value.int .i64 0) := hC.hc.cell 3
  have c4 : wq.cell? ⟨H + 1 + 1 + 1 + 1, 4, none⟩ = some (Value.int .i64 0) := hC.hc.cell 4
  have f1 : wq.frozen? ⟨H + 1 + 1 + 1 + 1, 1, none⟩ = false := hC.hc.frozen 1
  have f2 : wq.frozen? ⟨H + 1 + 1 + 1 + 1, 2, none⟩ = false := hC.hc.frozen 2
  have f3 : wq.frozen? ⟨H + 1 + 1 + 1 + 1, 3, none⟩ = false := hC.hc.frozen 3
  have f4 : wq.frozen? ⟨H + 1 + 1 + 1 + 1, 4, none⟩ = false := hC.hc.frozen 4
  have HC := Lib.hid hC
  have HW := Lib.hid hwq
  clear hC hwq
  go_enter Try.func9, Try.ntmps9
  go_wp2_with fail
  rw [← HW.out]
  clear HW hH
  refine wp_loop_rounds 5 ?_
  rw [rounds_succ]; go_wp2
  rw [rounds_succ]; go_wp2
  rw [rounds_succ]; go_wp2
  rw [rounds_succ]; go_wp2
  obtain ⟨w6, hw6⟩ : ∃ w6, w6 = (((wq.setCell ⟨H + 1 + 1 + 1 + 1, 1, none⟩ (.int .i64 b0)).setCell ⟨H + 1 + 1 + 1 + 1, 2, none⟩ (.int .i64 b1)).setCell ⟨H + 1 + 1 + 1 + 1, 3, none⟩ (.int .i64 b2)).setCell ⟨H + 1 + 1 + 1 + 1, 4, none⟩ (.int .i64 b3) := ⟨_, rfl⟩
  have C6 : CnW w w6 H a0 a1 a2 a3 #[.slice (some ⟨H + 3, 0, none⟩) 1 1, .int .i64 b0, .int .i64 b1, .int .i64 b2, .int .i64 b3, .int .i64 1, .int .i64 0, .int .i64 40] := by
    rw [hw6]
    exact (((HC.out.set_ 1 (.int .i64 b0)).set_ 2 (.int .i64 b1)).set_ 3 (.int .i64 b2)).set_ 4 (.int .i64 b3)
  rw [← hw6]
  have e4 := eq4 w6 b0 b1 b2 b3 0 0 0 0
  have z1 : w6.frozen? ⟨H + 1 + 1 + 1 + 1, 1, none⟩ = false := C6.hc.frozen 1
  have r0 : w6.cell? ⟨H + 1 + 1 + 1 + 1, 0, none⟩ = some (Value.slice (some ⟨H + 1 + 1 + 1, 0, none⟩) 1 1) := C6.hc.cell 0
  have r1 : w6.cell? ⟨H + 1 + 1 + 1 + 1, 1, none⟩ = some (Value.int .i64 b0) := C6.hc.cell 1
  have r2 : w6.cell? ⟨H + 1 + 1 + 1 + 1, 2, none⟩ = some (Value.int .i64 b1) := C6.hc.cell 2
  have r3 : w6.cell? ⟨H + 1 + 1 + 1 + 1, 3, none⟩ = some (Value.int .i64 b2) := C6.hc.cell 3
  have r4 : w6.cell? ⟨H + 1 + 1 + 1 + 1, 4, none⟩ = some (Value.int .i64 b3) := C6.hc.cell 4
  have r5 : w6.cell? ⟨H + 1 + 1 + 1 + 1, 5, none⟩ = some (Value.int .i64 1) := C6.hc.cell 5
  have r6 : w6.cell? ⟨H + 1 + 1 + 1 + 1, 6, none⟩ = some (Value.int .i64 0) := C6.hc.cell 6
  have r7 : w6.cell? ⟨H + 1 + 1 + 1 + 1, 7, none⟩ = some (Value.int .i64 40) := C6.hc.cell 7
  have HC6 := Lib.hid C6
  clear hw6 C6 c1 c2 c3 c4 f1 f2 f3 f4 d0 d1 d2 d3 HC m0 m1 m2 m3
  by_cases hz : b0 = 0 ∧ b1 = 0 ∧ b2 = 0 ∧ b3 = 0
  · rw [show ((b0 : Int) == 0 && ((b1 : Int) == 0 && ((b2 : Int) == 0 && (b3 : Int) == 0))) = true by simp; omega] at e4
    obtain rfl : v0 = 1 := by rw [hv0, if_pos hz]
    have HC7 := Lib.hid (HC6.out.set_ 1 (.int .i64 1))
    clear hv0 hz
    rw [rounds_succ]
    have hR6 : Blk (w6.setCell ⟨H + 1 + 1 + 1 + 1, 1, none⟩ (.int .i64 1)) (H + 1) 27 #[.slice none 0 0, .int .i64 0, .int .i64 0, .int .i64 0, .int .i64 0, .int .i64 0, .int .i64 0, .int .i64 0] := HC7.out.hr
    have h1c : (#[.slice (some ⟨H + 1 + 1 + 1, 0, none⟩) 1 1, .int .i64 1, .int .i64 b1, .int .i64 b2, .int .i64 b3, .int .i64 1, .int .i64 0, .int .i64 40] : Array Value).all (·.oneCell') = true := by first | kernel_rfl | simp [Value.oneCell']
    have k25 : (Try.prog.info? 27).map (·.size) = some (#[.slice (some ⟨H + 1 + 1 + 1, 0, none⟩) 1 1, .int .i64 1, .int .i64 b1, .int .i64 b2, .int .i64 b3, .int .i64 1, .int .i64 0, .int .i64 40] : Array Value).size := by kernel_rfl
    go_wp2_with (refine wpList_store_row rfl 27 (.tmp 2) (.tmp 28) rfl (H + 1) #[.slice (some ⟨H + 1 + 1 + 1, 0, none⟩) 1 1, .int .i64 1, .int .i64 b1, .int .i64 b2, .int .i64 b3, .int .i64 1, .int .i64 0, .int .i64 40] rfl rfl 27 #[.slice none 0 0, .int .i64 0, .int .i64 0, .int .i64 0, .int .i64 0, .int .i64 0, .int .i64 0, .int .i64 0] hR6 k25 rfl h1c ?_)
    (try simp only [Exit.inBlock, Exit.then])
    refine bodyPost_ret (v := .agg #[.slice (some ⟨H + 1 + 1 + 1, 0, none⟩) 1 1, .int .i64 1, .int .i64 b1, .int .i64 b2, .int .i64 b3, .int .i64 1, .int .i64 0, .int .i64 40]) ?_ rfl ?_
    · exact results_cell_row rfl _ _ (H + 1) 27 #[.slice (some ⟨H + 1 + 1 + 1, 0, none⟩) 1 1, .int .i64 1, .int .i64 b1, .int .i64 b2, .int .i64 b3, .int .i64 1, .int .i64 0, .int .i64 40] (0, 0) _ rfl (setRow_heap _ _ _ _ _ _ hR6) Try.underlying27 rfl k25
    have ks : Keep [H + 1] (w6.setCell ⟨H + 1 + 1 + 1 + 1, 1, none⟩ (.int .i64 1)) ((w6.setCell ⟨H + 1 + 1 + 1 + 1, 1, none⟩ (.int .i64 1)).setRow (H + 1) #[.slice (some ⟨H + 1 + 1 + 1, 0, none⟩) 1 1, .int .i64 1, .int .i64 b1, .int .i64 b2, .int .i64 b3, .int .i64 1, .int .i64 0, .int .i64 40]) := Keep.setRow _ _ (by simp) _
    exact ⟨H + 3, rfl, cfg_row (HC7.out.hk.keep ks (by simp)) (HC7.out.hf.keep ks (by simp)), HC7.out.kp.since ks (by simp; have := HC7.out.hs; omega)⟩
  · rw [show ((b0 : Int) == 0 && ((b1 : Int) == 0 && ((b2 : Int) == 0 && (b3 : Int) == 0))) = false by simp; omega] at e4
    obtain rfl : v0 = b0 := by rw [hv0, if_neg hz]
    clear hv0 hz
    rw [rounds_succ]
    have hR6 : Blk w6 (H + 1) 27 #[.slice none 0 0, .int .i64 0, .int .i64 0, .int .i64 0, .int .i64 0, .int .i64 0, .int .i64 0, .int .i64 0] := HC6.out.hr
    have h1c : (#[.slice (some ⟨H + 1 + 1 + 1, 0, none⟩) 1 1, .int .i64 v0, .int .i64 b1, .int .i64 b2, .int .i64 b3, .int .i64 1, .int .i64 0, .int .i64 40] : Array Value).all (·.oneCell') = true := by first | kernel_rfl | simp [Value.oneCell']
    have k25 : (Try.prog.info? 27).map (·.size) = some (#[.slice (some ⟨H + 1 + 1 + 1, 0, none⟩) 1 1, .int .i64 v0, .int .i64 b1, .int .i64 b2, .int .i64 b3, .int .i64 1, .int .i64 0, .int .i64 40] : Array Value).size := by kernel_rfl
    go_wp2_with (refine wpList_store_row rfl 27 (.tmp 2) (.tmp 28) rfl (H + 1) #[.slice (some ⟨H + 1 + 1 + 1, 0, none⟩) 1 1, .int .i64 v0, .int .i64 b1, .int .i64 b2, .int .i64 b3, .int .i64 1, .int .i64 0, .int .i64 40] rfl rfl 27 #[.slice none 0 0, .int .i64 0, .int .i64 0, .int .i64 0, .int .i64 0, .int .i64 0, .int .i64 0, .int .i64 0] hR6 k25 rfl h1c ?_)
    (try simp only [Exit.inBlock, Exit.then])
    refine bodyPost_ret (v := .agg #[.slice (some ⟨H + 1 + 1 + 1, 0, none⟩) 1 1, .int .i64 v0, .int .i64 b1, .int .i64 b2, .int .i64 b3, .int .i64 1, .int .i64 0, .int .i64 40]) ?_ rfl ?_
    · exact results_cell_row rfl _ _ (H + 1) 27 #[.slice (some ⟨H + 1 + 1 + 1, 0, none⟩) 1 1, .int .i64 v0, .int .i64 b1, .int .i64 b2, .int .i64 b3, .int .i64 1, .int .i64 0, .int .i64 40] (0, 0) _ rfl (setRow_heap _ _ _ _ _ _ hR6) Try.underlying27 rfl k25
    have ks : Keep [H + 1] w6 (w6.setRow (H + 1) #[.slice (some ⟨H + 1 + 1 + 1, 0, none⟩) 1 1, .int .i64 v0, .int .i64 b1, .int .i64 b2, .int .i64 b3, .int .i64 1, .int .i64 0, .int .i64 40]) := Keep.setRow _ _ (by simp) _
    exact ⟨H + 3, rfl, cfg_row (HC6.out.hk.keep ks (by simp)) (HC6.out.hf.keep ks (by simp)), HC6.out.kp.since ks (by simp; have := HC6.out.hs; omega)⟩

theorem config_any (w : World) (a0 a1 a2 a3 : Int) : Calls Try.prog 9 #[.agg #[.int .i64 a0, .int .i64 a1, .int .i64 a2, .int .i64 a3]] w (CnPost (cfC a0 a1 a2 a3).b0 (bk a1) (bk a2) (bk a3) w) :=
  config_core w a0 a1 a2 a3 (bk a0) (bk a1) (bk a2) (bk a3) (bk_lt _) (bk_lt _) (bk_lt _) (bk_lt _) (bk_mod _) (bk_mod _) (bk_mod _) (bk_mod _) _ rfl

/-- The layout of the law's config. -/
theorem lay_any (w : World) (a0 a1 a2 a3 : Int) (A : Option Addr) (hK : KRow w A 1 1 (fun _ => 1) (fun _ _ => 1)) :
    Calls Try.prog 10 #[.agg #[.slice A 1 1, .int .i64 (cfC a0 a1 a2 a3).b0, .int .i64 (bk a1), .int .i64 (bk a2), .int .i64 (bk a3), .int .i64 1, .int .i64 0, .int .i64 40]] w (LytPost (cfC a0 a1 a2 a3) (fun _ => 1) (fun _ _ => 1) w) :=
  new_yes w A 1 (cfC a0 a1 a2 a3) _ _ (cfC_ok a0 a1 a2 a3) oneK hK

/-- The blocks that every program must know. -/
def twoC : Cf := cfC 1 1 0 0

theorem two_lc (T : Nat → Bool) (x : Int) (hx : x ≤ 2) : fst T (fo twoC (lc x)) twoC.all false = fst T 0 2 false := by
  rw [show lc x = 0 by unfold lc; rw [if_pos hx]]
  rfl

set_option maxHeartbeats 1000000 in
theorem awake7_any (w : World) : Calls Try.prog 31 #[] w fun e w' => e = .returned (.bool true) ∧ Keep [] w w' := by
  have hcf := config_any w 1 1 0 0
  go_enter Try.func31, Try.ntmps31
  go_wp2_with fail
  (with_reducible refine hcf.mono ?_)
  rintro e w1 ⟨g, rfl, hK, k1⟩
  have hly := lay_any w1 1 1 0 0 _ hK
  clear hcf hK
  go_wp2_with fail
  (with_reducible refine hly.mono ?_)
  rintro e w2 ⟨l, rfl, hL, k2⟩
  have htn := tnew_nil hL (cfC_ok 1 1 0 0)
  clear hly
  go_wp2_with fail
  (with_reducible refine htn.mono ?_)
  rintro e w3 ⟨L, rfl, hT, ho, k3⟩
  have hr := reserve_any hT 2 (by omega) (by omega)
  rw [show fst (fun _ => false) (fo (cfC 1 1 0 0) (lc 2)) (cfC 1 1 0 0).all false = 0 from two_lc _ 2 (by omega)] at hr
  have hkk := (k1.trans k2).trans k3
  have hs2 := (k1.trans k2).size
  have HO := Lib.hid ho
  clear htn hL k1 k2 k3 ho
  go_wp2_with fail
  (with_reducible refine hr.mono ?_)
  rintro e w4 (⟨i, hi, _, _, rfl, hT4, k4⟩ | ⟨hX, _⟩)
  case inr => omega
  obtain rfl : i = 0 := by omega
  clear hi
  have hr4 := reserve_any hT4 2 (by omega) (by omega)
  rw [show fst (upd (fun _ => false) 0 true) (fo (cfC 1 1 0 0) (lc 2)) (cfC 1 1 0 0).all false = 1 from two_lc _ 2 (by omega)] at hr4
  clear hr hT
  go_wp2_with fail
  (with_reducible refine hr4.mono ?_)
  rintro e w5 (⟨j, hj, _, _, rfl, hT5, k5⟩ | ⟨hX, _⟩)
  case inr => omega
  obtain rfl : j = 1 := by omega
  clear hj
  have hr5 := reserve_any hT5 1 (by omega) (by omega)
  rw [show fst (upd (upd (fun _ => false) 0 true) 1 true) (fo (cfC 1 1 0 0) (lc 1)) (cfC 1 1 0 0).all false = -1 from two_lc _ 1 (by omega)] at hr5
  clear hr4 hT4
  go_wp2_with fail
  (with_reducible refine hr5.mono ?_)
  rintro e w6 (⟨j, hj, _⟩ | ⟨_, rfl, d6⟩)
  case inl => omega
  clear hr5
  go_wp2
  go_ret
  exact ⟨rfl, (hkk.since (k4.trans k5) (fun k hk => Nat.le_trans hs2 (HO.out k hk))).trans (Keep.dr d6)⟩
end Go.Proofs.Ytfihaaciaobolaa
