/-
  Package layout: place, May, copied, New. No conditions but what is in memory.
-/
import Derived.Test.YtfihaaciaobolaaLcq
import Derived.Handy
namespace Go.Proofs.Ytfihaaciaobolaa
open Go.RowKit Go.Flo Go.Bit
set_option maxRecDepth 100000

theorem wrapi {x : Int} (h0 : -9223372036854775808 ≤ x) (h1 : x ≤ 9223372036854775807) : IntKind.i64.wrap x = x := by
  rw [IntKind.wrap_i64]
  omega
theorem lineEndI (x : Int) (n : Nat) (hx : x = n) (hn : n ≤ 100000) (w : World) : Calls Try.prog 56 #[.int .i64 x] w fun e w' => e = .returned (.int .i64 (ln n : Nat)) ∧ w = w' := by
  subst hx
  exact lineEnd_any n hn w

def PlRel (C : Cf) (A : Option Addr) (cap : Nat) (w wx : World) : Prop :=
  Blk wx (w.heap.size + 2) 75 #[.slice none 0 0, .int .i64 0, .int .i64 0, .int .i64 0, .int .i64 0, .int .i64 0, .int .i64 0, .int .i64 0, .int .i64 C.roots, .int .i64 C.bits, .int .i64 C.log, .int .i64 0, .int .i64 0, .int .i64 C.b0, .int .i64 ((C.b0 : Int) + C.b1), .int .i64 ((C.b0 : Int) + C.b1 + C.b2), .int .i64 ((C.b0 : Int) + C.b1 + C.b2 + C.b3), .int .i64 0, .int .i64 0, .int .i64 0, .int .i64 0] ∧ Blk wx (w.heap.size + 1) 75 #[.slice none 0 0, .int .i64 0, .int .i64 0, .int .i64 0, .int .i64 0, .int .i64 0, .int .i64 0, .int .i64 0, .int .i64 0, .int .i64 0, .int .i64 0, .int .i64 0, .int .i64 0, .int .i64 0, .int .i64 0, .int .i64 0, .int .i64 0, .int .i64 0, .int .i64 0, .int .i64 0, .int .i64 0] ∧ Blk wx w.heap.size 27 #[.slice A C.n cap, .int .i64 C.b0, .int .i64 C.b1, .int .i64 C.b2, .int .i64 C.b3, .int .i64 C.r, .int .i64 C.wk, .int .i64 C.lg] ∧ Keep [] w wx
def PlRel2 (C : Cf) (w wx : World) : Prop :=
  Blk wx (w.heap.size + 2) 75 #[.slice none 0 0, .int .i64 0, .int .i64 0, .int .i64 0, .int .i64 0, .int .i64 0, .int .i64 0, .int .i64 0, .int .i64 C.roots, .int .i64 C.bits, .int .i64 C.log, .int .i64 C.words, .int .i64 0, .int .i64 C.b0, .int .i64 ((C.b0 : Int) + C.b1), .int .i64 ((C.b0 : Int) + C.b1 + C.b2), .int .i64 ((C.b0 : Int) + C.b1 + C.b2 + C.b3), .int .i64 C.s0, .int .i64 ((C.s0 : Int) + C.b0 * 2), .int .i64 ((C.s0 : Int) + C.b0 * 2 + C.b1 * 4), .int .i64 ((C.s0 : Int) + C.b0 * 2 + C.b1 * 4 + C.b2 * 8)] ∧ Blk wx (w.heap.size + 1) 75 #[.slice none 0 0, .int .i64 0, .int .i64 0, .int .i64 0, .int .i64 0, .int .i64 0, .int .i64 0, .int .i64 0, .int .i64 0, .int .i64 0, .int .i64 0, .int .i64 0, .int .i64 0, .int .i64 0, .int .i64 0, .int .i64 0, .int .i64 0, .int .i64 0, .int .i64 0, .int .i64 0, .int .i64 0] ∧ Keep [] w wx

theorem PlRel.of (C : Cf) (A : Option Addr) (cap : Nat) (w : World) : PlRel C A cap w ((((w.alloc (.cells #[.slice A C.n cap, .int .i64 C.b0, .int .i64 C.b1, .int .i64 C.b2, .int .i64 C.b3, .int .i64 C.r, .int .i64 C.wk, .int .i64 C.lg] 27)).alloc (.cells #[.slice none 0 0, .int .i64 0, .int .i64 0, .int .i64 0, .int .i64 0, .int .i64 0, .int .i64 0, .int .i64 0, .int .i64 0, .int .i64 0, .int .i64 0, .int .i64 0, .int .i64 0, .int .i64 0, .int .i64 0, .int .i64 0, .int .i64 0, .int .i64 0, .int .i64 0, .int .i64 0, .int .i64 0] 75)).alloc (.cells #[.slice none 0 0, .int .i64 0, .int .i64 0, .int .i64 0, .int .i64 0, .int .i64 0, .int .i64 0, .int .i64 0, .int .i64 C.roots, .int .i64 C.bits, .int .i64 C.log, .int .i64 0, .int .i64 0, .int .i64 C.b0, .int .i64 ((C.b0 : Int) + C.b1), .int .i64 ((C.b0 : Int) + C.b1 + C.b2), .int .i64 ((C.b0 : Int) + C.b1 + C.b2 + C.b3), .int .i64 0, .int .i64 0, .int .i64 0, .int .i64 0] 75)).drew) := by
  obtain ⟨h1, h2, h3, h4⟩ := three w #[.slice A C.n cap, .int .i64 C.b0, .int .i64 C.b1, .int .i64 C.b2, .int .i64 C.b3, .int .i64 C.r, .int .i64 C.wk, .int .i64 C.lg] #[.slice none 0 0, .int .i64 0, .int .i64 0, .int .i64 0, .int .i64 0, .int .i64 0, .int .i64 0, .int .i64 0, .int .i64 0, .int .i64 0, .int .i64 0, .int .i64 0, .int .i64 0, .int .i64 0, .int .i64 0, .int .i64 0, .int .i64 0, .int .i64 0, .int .i64 0, .int .i64 0, .int .i64 0] #[.slice none 0 0, .int .i64 0, .int .i64 0, .int .i64 0, .int .i64 0, .int .i64 0, .int .i64 0, .int .i64 0, .int .i64 C.roots, .int .i64 C.bits, .int .i64 C.log, .int .i64 0, .int .i64 0, .int .i64 C.b0, .int .i64 ((C.b0 : Int) + C.b1), .int .i64 ((C.b0 : Int) + C.b1 + C.b2), .int .i64 ((C.b0 : Int) + C.b1 + C.b2 + C.b3), .int .i64 0, .int .i64 0, .int .i64 0, .int .i64 0] 27 75 75
  exact ⟨h1, h2, h3, h4.trans (Keep.drew _)⟩

set_option maxHeartbeats 1000000 in
theorem place_any (C : Cf) (h : C.Ok) (A : Option Addr) (cap : Nat) (w : World) :
    Calls Try.prog 38 #[.agg #[.slice A C.n cap, .int .i64 C.b0, .int .i64 C.b1, .int .i64 C.b2, .int .i64 C.b3, .int .i64 C.r, .int .i64 C.wk, .int .i64 C.lg]] w fun e w' => e = .returned (.agg #[.slice none 0 0, .int .i64 0, .int .i64 0, .int .i64 0, .int .i64 0, .int .i64 0, .int .i64 0, .int .i64 0, .int .i64 C.roots, .int .i64 C.bits, .int .i64 C.log, .int .i64 C.words, .int .i64 0, .int .i64 C.f1, .int .i64 C.f2, .int .i64 C.f3, .int .i64 C.all, .int .i64 C.s0, .int .i64 C.s1, .int .i64 C.s2, .int .i64 C.s3]) ∧ Keep [] w w' := by
  have i0 := fun W => idx40 W C.b0 C.b1 C.b2 C.b3
  have i1 := fun W => idx41 W C.b0 C.b1 C.b2 C.b3
  have i2 := fun W => idx42 W C.b0 C.b1 C.b2 C.b3
  have i3 := fun W => idx43 W C.b0 C.b1 C.b2 C.b3
  have hn := h.n
  have hb0 := h.b0
  have hb1 := h.b1
  have hb2 := h.b2
  have hb3 := h.b3
  have hr := h.r
  have hwk := h.wk
  have hlg := h.lg
  have hrt := h.roots_le
  have hbt := h.bits_le
  have hal := h.all_le
  have hlo := h.log_le
  have h0 := h.s0_le
  have h1 := h.s1_le
  have h2 := h.s2_le
  have h3 := h.s3_le
  have l1 : ∀ W, Calls Try.prog 56 #[.int .i64 (9 + (C.n : Int))] W fun e w' => e = .returned (.int .i64 (C.roots : Nat)) ∧ W = w' := fun W => lineEndI _ (9 + C.n) (by omega) (by omega) W
  have l2 : ∀ W, Calls Try.prog 56 #[.int .i64 ((C.roots : Int) + (C.r : Int) + (C.wk : Int))] W fun e w' => e = .returned (.int .i64 (C.bits : Nat)) ∧ W = w' := fun W => lineEndI _ (C.roots + C.r + C.wk) (by omega) (by omega) W
  have p1 : ∀ W, Calls Try.prog 57 #[.int .i64 ((C.b0 : Int) + (C.b1 : Int) + (C.b2 : Int) + (C.b3 : Int)), .int .i64 64] W fun e w' => e = .returned (.int .i64 ((C.all + 63) / 64 : Nat)) ∧ W = w' := fun W => by
    have := parts64 C.all (by omega) W
    rwa [show ((C.all : Nat) : Int) = (C.b0 : Int) + (C.b1 : Int) + (C.b2 : Int) + (C.b3 : Int) by unfold Cf.all; omega] at this
  obtain ⟨pq, hpq⟩ : ∃ pq : Nat, (C.all + 63) / 64 = pq := ⟨_, rfl⟩
  have hpq1 : pq ≤ 100 := by omega
  have l3 : ∀ W, Calls Try.prog 56 #[.int .i64 (IntKind.i64.wrap ((C.bits : Int) + (pq : Int)))] W fun e w' => e = .returned (.int .i64 (C.log : Nat)) ∧ W = w' := fun W => lineEndI _ (C.bits + (C.all + 63) / 64) (by rw [wrapi (by omega) (by omega)]; omega) (by omega) W
  rw [hpq] at p1
  have l4 : ∀ W, Calls Try.prog 56 #[.int .i64 ((C.log : Int) + (C.lg : Int))] W fun e w' => e = .returned (.int .i64 (C.s0 : Nat)) ∧ W = w' := fun W => lineEndI _ (C.log + C.lg) (by omega) (by omega) W
  have l5 : ∀ W, Calls Try.prog 56 #[.int .i64 ((C.s0 : Int) + (C.b0 : Int) * 2 + (C.b1 : Int) * 4 + (C.b2 : Int) * 8 + (C.b3 : Int) * 16)] W fun e w' => e = .returned (.int .i64 (C.words : Nat)) ∧ W = w' := fun W => lineEndI _ (C.s3 + C.b3 * 16) (by unfold Cf.s3 Cf.s2 Cf.s1; omega) (by omega) W
  have z0 : ∀ W, Calls Try.prog 50 #[.int .i64 0] W fun e w' => e = .returned (.int .i64 2) ∧ W = w' := fun W => size_any 0 (by omega) W
  have z1 : ∀ W, Calls Try.prog 50 #[.int .i64 1] W fun e w' => e = .returned (.int .i64 4) ∧ W = w' := fun W => size_any 1 (by omega) W
  have z2 : ∀ W, Calls Try.prog 50 #[.int .i64 2] W fun e w' => e = .returned (.int .i64 8) ∧ W = w' := fun W => size_any 2 (by omega) W
  have z3 : ∀ W, Calls Try.prog 50 #[.int .i64 3] W fun e w' => e = .returned (.int .i64 16) ∧ W = w' := fun W => size_any 3 (by omega) W
  clear h hpq
  go_enter Try.func38, Try.ntmps38
  go_wp2
  refine wp_loop_rounds 5 ?_
  rw [rounds_succ]; go_wp2
  rw [rounds_succ]; go_wp2
  rw [rounds_succ]; go_wp2
  rw [rounds_succ]; go_wp2
  rw [rounds_succ]; go_wp2_with fail
  (with_reducible refine (l1 _).mono ?_)
  rintro e w' ⟨rfl, rfl⟩
  go_wp2_with fail
  (with_reducible refine (l2 _).mono ?_)
  rintro e w' ⟨rfl, rfl⟩
  go_upto_region 10 with fail
  go_cut [] (fun wx => PlRel C A cap w wx)
  case first =>
    go_wp2_with fail
    go_region_with (first | (go_at_call 57; refine (p1 _).mono ?_; rintro e w' ⟨rfl, rfl⟩) | (go_at_call 56; refine (l3 _).mono ?_; rintro e w' ⟨rfl, rfl⟩))
    all_goals
      go_wp2_with fail
      go_meet
      exact PlRel.of C A cap w
  case rest =>
  obtain ⟨hL, hR, hC, hK⟩ := hcut
  have q7 := (hC.cell 7).trans (show _ = some (Value.int .i64 C.lg) from rfl)
  have q1 := (hC.cell 1).trans (show _ = some (Value.int .i64 C.b0) from rfl)
  have q2 := (hC.cell 2).trans (show _ = some (Value.int .i64 C.b1) from rfl)
  have q3 := (hC.cell 3).trans (show _ = some (Value.int .i64 C.b2) from rfl)
  have q4 := (hC.cell 4).trans (show _ = some (Value.int .i64 C.b3) from rfl)
  have q10 := (hL.cell 10).trans (show _ = some (Value.int .i64 C.log) from rfl)
  have y17 := (hL.cell 17).trans (show _ = some (Value.int .i64 0) from rfl)
  have y18 := (hL.cell 18).trans (show _ = some (Value.int .i64 0) from rfl)
  have y19 := (hL.cell 19).trans (show _ = some (Value.int .i64 0) from rfl)
  have y20 := (hL.cell 20).trans (show _ = some (Value.int .i64 0) from rfl)
  have y11 := (hL.cell 11).trans (show _ = some (Value.int .i64 0) from rfl)
  have f17 := hL.frozen 17
  have f18 := hL.frozen 18
  have f19 := hL.frozen 19
  have f20 := hL.frozen 20
  have f11 := hL.frozen 11
  have HF0 : ∀ wx, wx = ((((wc.setCell ⟨w.heap.size + 2, 17, none⟩ (.int .i64 C.s0)).setCell ⟨w.heap.size + 2, 18, none⟩ (.int .i64 ((C.s0 : Int) + C.b0 * 2))).setCell ⟨w.heap.size + 2, 19, none⟩ (.int .i64 ((C.s0 : Int) + C.b0 * 2 + C.b1 * 4))).setCell ⟨w.heap.size + 2, 20, none⟩ (.int .i64 ((C.s0 : Int) + C.b0 * 2 + C.b1 * 4 + C.b2 * 8))).setCell ⟨w.heap.size + 2, 11, none⟩ (.int .i64 C.words) → PlRel2 C w wx := by
    rintro _ rfl
    refine ⟨((((hL.set_ 17 _).set_ 18 _).set_ 19 _).set_ 20 _).set_ 11 _, ((((hR.far (by simp) _).far (by simp) _).far (by simp) _).far (by simp) _).far (by simp) _, ?_⟩
    refine hK.since (own := [w.heap.size + 2]) ?_ (by simp)
    exact ((((Keep.setCell _ _ (by simp) _).trans (Keep.setCell _ _ (by simp) _)).trans (Keep.setCell _ _ (by simp) _)).trans (Keep.setCell _ _ (by simp) _)).trans (Keep.setCell _ _ (by simp) _)
  have HF := Lib.hid HF0
  clear HF0
  clear hL hR hC hK
  have h1c : (#[.slice none 0 0, .int .i64 0, .int .i64 0, .int .i64 0, .int .i64 0, .int .i64 0, .int .i64 0, .int .i64 0, .int .i64 C.roots, .int .i64 C.bits, .int .i64 C.log, .int .i64 C.words, .int .i64 0, .int .i64 C.b0, .int .i64 ((C.b0 : Int) + C.b1), .int .i64 ((C.b0 : Int) + C.b1 + C.b2), .int .i64 ((C.b0 : Int) + C.b1 + C.b2 + C.b3), .int .i64 C.s0, .int .i64 ((C.s0 : Int) + C.b0 * 2), .int .i64 ((C.s0 : Int) + C.b0 * 2 + C.b1 * 4), .int .i64 ((C.s0 : Int) + C.b0 * 2 + C.b1 * 4 + C.b2 * 8)] : Array Value).all (·.oneCell') = true := by first | kernel_rfl | simp [Value.oneCell']
  have k62 : (Try.prog.info? 75).map (·.size) = some (#[.slice none 0 0, .int .i64 0, .int .i64 0, .int .i64 0, .int .i64 0, .int .i64 0, .int .i64 0, .int .i64 0, .int .i64 C.roots, .int .i64 C.bits, .int .i64 C.log, .int .i64 C.words, .int .i64 0, .int .i64 C.b0, .int .i64 ((C.b0 : Int) + C.b1), .int .i64 ((C.b0 : Int) + C.b1 + C.b2), .int .i64 ((C.b0 : Int) + C.b1 + C.b2 + C.b3), .int .i64 C.s0, .int .i64 ((C.s0 : Int) + C.b0 * 2), .int .i64 ((C.s0 : Int) + C.b0 * 2 + C.b1 * 4), .int .i64 ((C.s0 : Int) + C.b0 * 2 + C.b1 * 4 + C.b2 * 8)] : Array Value).size := by kernel_rfl
  go_wp2_with fail
  (with_reducible refine (l4 _).mono ?_)
  rintro e w' ⟨rfl, rfl⟩
  go_wp2
  refine wp_loop_rounds 5 ?_
  rw [rounds_succ]; go_wp2_with fail
  (with_reducible refine (z0 _).mono ?_)
  rintro e w' ⟨rfl, rfl⟩
  go_wp2
  rw [rounds_succ]; go_wp2_with fail
  (with_reducible refine (z1 _).mono ?_)
  rintro e w' ⟨rfl, rfl⟩
  go_wp2
  rw [rounds_succ]; go_wp2_with fail
  (with_reducible refine (z2 _).mono ?_)
  rintro e w' ⟨rfl, rfl⟩
  go_wp2
  rw [rounds_succ]; go_wp2_with fail
  (with_reducible refine (z3 _).mono ?_)
  rintro e w' ⟨rfl, rfl⟩
  go_wp2
  rw [rounds_succ]; go_wp2_with fail
  (with_reducible refine (l5 _).mono ?_)
  rintro e w' ⟨rfl, rfl⟩
  go_upto_region 18 with fail
  refine gen_world (R := PlRel2 C w) (HF.out _ (by with_reducible rfl)) ?_
  clear HF
  rintro wz ⟨hL, hR, hK⟩
  clear q7 q1 q2 q3 q4 q10 y17 y18 y19 y20 y11 f17 f18 f19 f20 f11
  go_wp2_with (first | (refine wpList_load_row rfl 75 (.tmp 3) rfl (w.heap.size + 2) rfl 75 #[.slice none 0 0, .int .i64 0, .int .i64 0, .int .i64 0, .int .i64 0, .int .i64 0, .int .i64 0, .int .i64 0, .int .i64 C.roots, .int .i64 C.bits, .int .i64 C.log, .int .i64 C.words, .int .i64 0, .int .i64 C.b0, .int .i64 ((C.b0 : Int) + C.b1), .int .i64 ((C.b0 : Int) + C.b1 + C.b2), .int .i64 ((C.b0 : Int) + C.b1 + C.b2 + C.b3), .int .i64 C.s0, .int .i64 ((C.s0 : Int) + C.b0 * 2), .int .i64 ((C.s0 : Int) + C.b0 * 2 + C.b1 * 4), .int .i64 ((C.s0 : Int) + C.b0 * 2 + C.b1 * 4 + C.b2 * 8)] (0, 0) _ hL Try.underlying75 rfl k62 ?_) | (refine wpList_store_row rfl 75 (.tmp 2) (.tmp 77) rfl (w.heap.size + 1) #[.slice none 0 0, .int .i64 0, .int .i64 0, .int .i64 0, .int .i64 0, .int .i64 0, .int .i64 0, .int .i64 0, .int .i64 C.roots, .int .i64 C.bits, .int .i64 C.log, .int .i64 C.words, .int .i64 0, .int .i64 C.b0, .int .i64 ((C.b0 : Int) + C.b1), .int .i64 ((C.b0 : Int) + C.b1 + C.b2), .int .i64 ((C.b0 : Int) + C.b1 + C.b2 + C.b3), .int .i64 C.s0, .int .i64 ((C.s0 : Int) + C.b0 * 2), .int .i64 ((C.s0 : Int) + C.b0 * 2 + C.b1 * 4), .int .i64 ((C.s0 : Int) + C.b0 * 2 + C.b1 * 4 + C.b2 * 8)] rfl rfl 75 #[.slice none 0 0, .int .i64 0, .int .i64 0, .int .i64 0, .int .i64 0, .int .i64 0, .int .i64 0, .int .i64 0, .int .i64 0, .int .i64 0, .int .i64 0, .int .i64 0, .int .i64 0, .int .i64 0, .int .i64 0, .int .i64 0, .int .i64 0, .int .i64 0, .int .i64 0, .int .i64 0, .int .i64 0] hR k62 rfl h1c ?_))
  (try simp only [Exit.inBlock, Exit.then])
  refine bodyPost_ret (v := .agg #[.slice none 0 0, .int .i64 0, .int .i64 0, .int .i64 0, .int .i64 0, .int .i64 0, .int .i64 0, .int .i64 0, .int .i64 C.roots, .int .i64 C.bits, .int .i64 C.log, .int .i64 C.words, .int .i64 0, .int .i64 C.b0, .int .i64 ((C.b0 : Int) + C.b1), .int .i64 ((C.b0 : Int) + C.b1 + C.b2), .int .i64 ((C.b0 : Int) + C.b1 + C.b2 + C.b3), .int .i64 C.s0, .int .i64 ((C.s0 : Int) + C.b0 * 2), .int .i64 ((C.s0 : Int) + C.b0 * 2 + C.b1 * 4), .int .i64 ((C.s0 : Int) + C.b0 * 2 + C.b1 * 4 + C.b2 * 8)]) ?_ rfl ?_
  · exact results_cell_row rfl _ _ (w.heap.size + 1) 75 #[.slice none 0 0, .int .i64 0, .int .i64 0, .int .i64 0, .int .i64 0, .int .i64 0, .int .i64 0, .int .i64 0, .int .i64 C.roots, .int .i64 C.bits, .int .i64 C.log, .int .i64 C.words, .int .i64 0, .int .i64 C.b0, .int .i64 ((C.b0 : Int) + C.b1), .int .i64 ((C.b0 : Int) + C.b1 + C.b2), .int .i64 ((C.b0 : Int) + C.b1 + C.b2 + C.b3), .int .i64 C.s0, .int .i64 ((C.s0 : Int) + C.b0 * 2), .int .i64 ((C.s0 : Int) + C.b0 * 2 + C.b1 * 4), .int .i64 ((C.s0 : Int) + C.b0 * 2 + C.b1 * 4 + C.b2 * 8)] (0, 0) _ rfl (setRow_heap _ _ _ _ _ _ hR) Try.underlying75 rfl k62
  refine ⟨?_, hK.since (Keep.setRow (own := [w.heap.size + 1]) _ _ (by simp) _) (by simp)⟩
  have e1 : (C.f1 : Int) = C.b0 := rfl
  have e2 : (C.f2 : Int) = (C.b0 : Int) + C.b1 := by unfold Cf.f2; omega
  have e3 : (C.f3 : Int) = (C.b0 : Int) + C.b1 + C.b2 := by unfold Cf.f3; omega
  have e4 : (C.all : Int) = (C.b0 : Int) + C.b1 + C.b2 + C.b3 := by unfold Cf.all; omega
  have e5 : (C.s1 : Int) = (C.s0 : Int) + C.b0 * 2 := by unfold Cf.s1; omega
  have e6 : (C.s2 : Int) = (C.s0 : Int) + C.b0 * 2 + C.b1 * 4 := by unfold Cf.s2 Cf.s1; omega
  have e7 : (C.s3 : Int) = (C.s0 : Int) + C.b0 * 2 + C.b1 * 4 + C.b2 * 8 := by unfold Cf.s3 Cf.s2 Cf.s1; omega
  rw [e1, e2, e3, e4, e5, e6, e7]
end Go.Proofs.Ytfihaaciaobolaa
