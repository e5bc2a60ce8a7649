/-
  The document's twin of layout: Lay. No conditions but what is in memory.
-/
import Derived.Test.YtfihaaciaobolaaR61
import Derived.Test.YtfihaaciaobolaaLay4
namespace Go.Proofs.Ytfihaaciaobolaa
open Go.RowKit Go.Flo Go.Bit
set_option maxRecDepth 100000

/-- The twin's layout in memory. -/
def RLy (w : World) (g : Nat) (A : Option Addr) (cap : Nat) (C : Cf) : Prop := Blk w g 79 #[.slice A C.n cap, .int .i64 C.b0, .int .i64 C.b1, .int .i64 C.b2, .int .i64 C.b3, .int .i64 C.r, .int .i64 C.wk, .int .i64 C.lg, .int .i64 C.roots, .int .i64 ((C.roots : Int) + C.r), .int .i64 C.bits, .int .i64 C.log, .int .i64 ((C.log : Int) + C.lg), .int .i64 ((C.log : Int) + C.lg), .int .i64 0, .int .i64 C.f1, .int .i64 C.f2, .int .i64 C.f3, .int .i64 C.all, .int .i64 C.words]

theorem RLy.keep {w w' : World} {g : Nat} {A : Option Addr} {cap : Nat} {C : Cf} (h : RLy w g A cap C) (hk : Keep [] w w') : RLy w' g A cap C := Blk.keep h hk (by simp)

def RLyPost (A : Option Addr) (cap : Nat) (C : Cf) (w : World) (e : Ending) (w' : World) : Prop :=
  ∃ g, e = .returned (.pointer (some ⟨g, 0, none⟩)) ∧ RLy w' g A cap C ∧ Keep [] w w'

/-- On the way. -/
def LyR (C : Cf) (A : Option Addr) (cap : Nat) (X : Array Value) (w wx : World) : Prop :=
  Blk wx (w.heap.size + 1) 79 X ∧ Blk wx w.heap.size 27 #[.slice A C.n cap, .int .i64 C.b0, .int .i64 C.b1, .int .i64 C.b2, .int .i64 C.b3, .int .i64 C.r, .int .i64 C.wk, .int .i64 C.lg] ∧ Keep [] w wx

theorem LyR.of (C : Cf) (A : Option Addr) (cap : Nat) (X : Array Value) (w : World) : LyR C A cap X w ((w.alloc (.cells #[.slice A C.n cap, .int .i64 C.b0, .int .i64 C.b1, .int .i64 C.b2, .int .i64 C.b3, .int .i64 C.r, .int .i64 C.wk, .int .i64 C.lg] 27)).alloc (.cells X 79)) := by
  have k1 : Keep [] w (w.alloc (.cells #[.slice A C.n cap, .int .i64 C.b0, .int .i64 C.b1, .int .i64 C.b2, .int .i64 C.b3, .int .i64 C.r, .int .i64 C.wk, .int .i64 C.lg] 27)) := Keep.alloc _ _
  have k2 : Keep [] (w.alloc (.cells #[.slice A C.n cap, .int .i64 C.b0, .int .i64 C.b1, .int .i64 C.b2, .int .i64 C.b3, .int .i64 C.r, .int .i64 C.wk, .int .i64 C.lg] 27)) ((w.alloc (.cells #[.slice A C.n cap, .int .i64 C.b0, .int .i64 C.b1, .int .i64 C.b2, .int .i64 C.b3, .int .i64 C.r, .int .i64 C.wk, .int .i64 C.lg] 27)).alloc (.cells X 79)) := Keep.alloc _ _
  have b2 := Blk.new (w.alloc (.cells #[.slice A C.n cap, .int .i64 C.b0, .int .i64 C.b1, .int .i64 C.b2, .int .i64 C.b3, .int .i64 C.r, .int .i64 C.wk, .int .i64 C.lg] 27)) 79 X
  have e1 : (w.alloc (.cells #[.slice A C.n cap, .int .i64 C.b0, .int .i64 C.b1, .int .i64 C.b2, .int .i64 C.b3, .int .i64 C.r, .int .i64 C.wk, .int .i64 C.lg] 27)).heap.size = w.heap.size + 1 := by simp
  rw [e1] at b2
  exact ⟨b2, (Blk.new w 27 #[.slice A C.n cap, .int .i64 C.b0, .int .i64 C.b1, .int .i64 C.b2, .int .i64 C.b3, .int .i64 C.r, .int .i64 C.wk, .int .i64 C.lg]).keep k2 (by simp), k1.trans k2⟩

theorem LyR.set {C : Cf} {A : Option Addr} {cap : Nat} {X : Array Value} {w wx : World} (h : LyR C A cap X w wx) (k : Nat) (v : Value) : LyR C A cap (X.setIfInBounds k v) w (wx.setCell ⟨w.heap.size + 1, k, none⟩ v) :=
  ⟨h.1.set_ k v, h.2.1.far (by simp) _, h.2.2.since (own := [w.heap.size + 1]) (Keep.setCell _ _ (by simp) _) (by simp)⟩

theorem LyR.drew {C : Cf} {A : Option Addr} {cap : Nat} {X : Array Value} {w wx : World} (h : LyR C A cap X w wx) : LyR C A cap X w wx.drew :=
  ⟨h.1.keep (own := []) (Keep.drew _) (by simp), h.2.1.keep (own := []) (Keep.drew _) (by simp), h.2.2.trans (Keep.drew _)⟩

set_option maxHeartbeats 1000000 in
theorem rlay_any (C : Cf) (h : C.Ok) (A : Option Addr) (cap : Nat) (w : World) :
    Calls Try.prog 12 #[.agg #[.slice A C.n cap, .int .i64 C.b0, .int .i64 C.b1, .int .i64 C.b2, .int .i64 C.b3, .int .i64 C.r, .int .i64 C.wk, .int .i64 C.lg]] w (RLyPost A cap C w) := by
  have i0 := fun W => idx40 W C.b0 C.b1 C.b2 C.b3
  have i1 := fun W => idx41 W C.b0 C.b1 C.b2 C.b3
  have i2 := fun W => idx42 W C.b0 C.b1 C.b2 C.b3
  have i3 := fun W => idx43 W C.b0 C.b1 C.b2 C.b3
  have hn := h.n
  have hb0 := h.b0
  have hb1 := h.b1
  have hb2 := h.b2
  have hb3 := h.b3
  have hr := h.r
  have hwk := h.wk
  have hlg := h.lg
  have hrt := h.roots_le
  have hbt := h.bits_le
  have hal := h.all_le
  have hlo := h.log_le
  have h0 := h.s0_le
  have h1 := h.s1_le
  have h2 := h.s2_le
  have h3 := h.s3_le
  have hs0 := h.s0_eq
  have l1 : ∀ W, Calls Try.prog 40 #[.int .i64 (9 + (C.n : Int))] W fun e w' => e = .returned (.int .i64 (C.roots : Nat)) ∧ W = w' := fun W => rlineI _ (9 + C.n) (by omega) (by omega) W
  have l2 : ∀ W, Calls Try.prog 40 #[.int .i64 (IntKind.i64.wrap ((C.roots : Int) + (C.r : Int) + (C.wk : Int)))] W fun e w' => e = .returned (.int .i64 (C.bits : Nat)) ∧ W = w' := fun W => rlineI _ (C.roots + C.r + C.wk) (by rw [wrapi (by omega) (by omega)]; omega) (by omega) W
  have l3 : ∀ W, Calls Try.prog 40 #[.int .i64 ((C.bits : Int) + ((C.b0 : Int) + (C.b1 : Int) + (C.b2 : Int) + (C.b3 : Int) + 63) / 64)] W fun e w' => e = .returned (.int .i64 (C.log : Nat)) ∧ W = w' := fun W => rlineI _ (C.bits + (C.all + 63) / 64) (by unfold Cf.all; omega) (by omega) W
  have HW := Lib.hid (show C.log + C.lg + C.b0 * 2 + C.b1 * 4 + C.b2 * 8 + C.b3 * 16 = C.s3 + C.b3 * 16 by unfold Cf.s3 Cf.s2 Cf.s1; omega)
  have l5 : ∀ W, Calls Try.prog 40 #[.int .i64 ((C.log : Int) + (C.lg : Int) + (C.b0 : Int) * 2 + (C.b1 : Int) * 4 + (C.b2 : Int) * 8 + (C.b3 : Int) * 16)] W fun e w' => e = .returned (.int .i64 (C.words : Nat)) ∧ W = w' := fun W => rlineI _ (C.s3 + C.b3 * 16) (by have := HW.out; omega) (by omega) W
  have z0 : ∀ W, Calls Try.prog 32 #[.int .i64 0] W fun e w' => e = .returned (.int .i64 2) ∧ W = w' := fun W => rsize_any 0 (by omega) W
  have z1 : ∀ W, Calls Try.prog 32 #[.int .i64 1] W fun e w' => e = .returned (.int .i64 4) ∧ W = w' := fun W => rsize_any 1 (by omega) W
  have z2 : ∀ W, Calls Try.prog 32 #[.int .i64 2] W fun e w' => e = .returned (.int .i64 8) ∧ W = w' := fun W => rsize_any 2 (by omega) W
  have z3 : ∀ W, Calls Try.prog 32 #[.int .i64 3] W fun e w' => e = .returned (.int .i64 16) ∧ W = w' := fun W => rsize_any 3 (by omega) W
  clear h hs0
  go_enter Try.func12, Try.ntmps12
  go_wp2_with fail
  (with_reducible refine (l1 _).mono ?_)
  rintro e w' ⟨rfl, rfl⟩
  go_upto_region 3 with fail
  go_cut [] (fun wx => LyR C A cap #[.slice A C.n cap, .int .i64 C.b0, .int .i64 C.b1, .int .i64 C.b2, .int .i64 C.b3, .int .i64 C.r, .int .i64 C.wk, .int .i64 C.lg, .int .i64 C.roots, .int .i64 ((C.roots : Int) + C.r), .int .i64 0, .int .i64 0, .int .i64 0, .int .i64 0, .int .i64 0, .int .i64 0, .int .i64 0, .int .i64 0, .int .i64 0, .int .i64 0] w wx)
  case first =>
    go_wp2_with fail
    go_region
    all_goals
      go_wp2_with fail
      go_meet
      exact (LyR.of C A cap _ w).drew
  case rest =>
  have H3 := Lib.hid hcut
  obtain ⟨hL, hC, hK⟩ := hcut
  have y9 := (hL.cell 9).trans (show _ = some (Value.int .i64 ((C.roots : Int) + C.r)) from rfl)
  have y10 := (hL.cell 10).trans (show _ = some (Value.int .i64 0) from rfl)
  have f10 := hL.frozen 10
  have q6 := (hC.cell 6).trans (show _ = some (Value.int .i64 C.wk) from rfl)
  clear hL hC hK
  generalize wc = wq at *
  go_upto_region 4 with fail
  go_cut [] (fun wx => LyR C A cap #[.slice A C.n cap, .int .i64 C.b0, .int .i64 C.b1, .int .i64 C.b2, .int .i64 C.b3, .int .i64 C.r, .int .i64 C.wk, .int .i64 C.lg, .int .i64 C.roots, .int .i64 ((C.roots : Int) + C.r), .int .i64 C.bits, .int .i64 0, .int .i64 0, .int .i64 0, .int .i64 0, .int .i64 0, .int .i64 0, .int .i64 0, .int .i64 0, .int .i64 0] w wx)
  case first =>
    go_wp2_with fail
    go_region_with (go_at_call 40; refine (l2 _).mono ?_; rintro e w' ⟨rfl, rfl⟩)
    all_goals
      go_wp2_with fail
      go_meet
      first | exact (H3.out.drew.set 10 _) | exact (H3.out.set 10 _).drew
  case rest =>
  clear y9 y10 f10 q6 H3
  have H4 := Lib.hid hcut
  obtain ⟨hL, hC, hK⟩ := hcut
  have y10 := (hL.cell 10).trans (show _ = some (Value.int .i64 C.bits) from rfl)
  have y11 := (hL.cell 11).trans (show _ = some (Value.int .i64 0) from rfl)
  have y14 := (hL.cell 14).trans (show _ = some (Value.int .i64 0) from rfl)
  have y15 := (hL.cell 15).trans (show _ = some (Value.int .i64 0) from rfl)
  have y16 := (hL.cell 16).trans (show _ = some (Value.int .i64 0) from rfl)
  have y17 := (hL.cell 17).trans (show _ = some (Value.int .i64 0) from rfl)
  have y18 := (hL.cell 18).trans (show _ = some (Value.int .i64 0) from rfl)
  have f11 := hL.frozen 11
  have f14 := hL.frozen 14
  have f15 := hL.frozen 15
  have f16 := hL.frozen 16
  have f17 := hL.frozen 17
  have f18 := hL.frozen 18
  have q1 := (hC.cell 1).trans (show _ = some (Value.int .i64 C.b0) from rfl)
  have q2 := (hC.cell 2).trans (show _ = some (Value.int .i64 C.b1) from rfl)
  have q3 := (hC.cell 3).trans (show _ = some (Value.int .i64 C.b2) from rfl)
  have q4 := (hC.cell 4).trans (show _ = some (Value.int .i64 C.b3) from rfl)
  have HF0 : ∀ wx, wx = ((((((wc.setCell ⟨w.heap.size + 1, 14, none⟩ (.int .i64 0)).setCell ⟨w.heap.size + 1, 15, none⟩ (.int .i64 C.b0)).setCell ⟨w.heap.size + 1, 16, none⟩ (.int .i64 ((C.b0 : Int) + C.b1))).setCell ⟨w.heap.size + 1, 17, none⟩ (.int .i64 ((C.b0 : Int) + C.b1 + C.b2))).setCell ⟨w.heap.size + 1, 18, none⟩ (.int .i64 ((C.b0 : Int) + C.b1 + C.b2 + C.b3))).setCell ⟨w.heap.size + 1, 11, none⟩ (.int .i64 C.log)) → LyR C A cap #[.slice A C.n cap, .int .i64 C.b0, .int .i64 C.b1, .int .i64 C.b2, .int .i64 C.b3, .int .i64 C.r, .int .i64 C.wk, .int .i64 C.lg, .int .i64 C.roots, .int .i64 ((C.roots : Int) + C.r), .int .i64 C.bits, .int .i64 C.log, .int .i64 0, .int .i64 0, .int .i64 0, .int .i64 C.b0, .int .i64 ((C.b0 : Int) + C.b1), .int .i64 ((C.b0 : Int) + C.b1 + C.b2), .int .i64 ((C.b0 : Int) + C.b1 + C.b2 + C.b3), .int .i64 0] w wx := by
    rintro _ rfl
    have s0 : LyR C A cap #[.slice A C.n cap, .int .i64 C.b0, .int .i64 C.b1, .int .i64 C.b2, .int .i64 C.b3, .int .i64 C.r, .int .i64 C.wk, .int .i64 C.lg, .int .i64 C.roots, .int .i64 ((C.roots : Int) + C.r), .int .i64 C.bits, .int .i64 0, .int .i64 0, .int .i64 0, .int .i64 0, .int .i64 0, .int .i64 0, .int .i64 0, .int .i64 0, .int .i64 0] w (wc.setCell ⟨w.heap.size + 1, 14, none⟩ (.int .i64 0)) := by
      have := H4.out.set 14 (.int .i64 0)
      simpa only [List.setIfInBounds_toArray, List.set_cons_zero, List.set_cons_succ] using this
    have s1 : LyR C A cap #[.slice A C.n cap, .int .i64 C.b0, .int .i64 C.b1, .int .i64 C.b2, .int .i64 C.b3, .int .i64 C.r, .int .i64 C.wk, .int .i64 C.lg, .int .i64 C.roots, .int .i64 ((C.roots : Int) + C.r), .int .i64 C.bits, .int .i64 0, .int .i64 0, .int .i64 0, .int .i64 0, .int .i64 C.b0, .int .i64 0, .int .i64 0, .int .i64 0, .int .i64 0] w ((wc.setCell ⟨w.heap.size + 1, 14, none⟩ (.int .i64 0)).setCell ⟨w.heap.size + 1, 15, none⟩ (.int .i64 C.b0)) := by
      have := s0.set 15 (.int .i64 C.b0)
      simpa only [List.setIfInBounds_toArray, List.set_cons_zero, List.set_cons_succ] using this
    have s2 : LyR C A cap #[.slice A C.n cap, .int .i64 C.b0, .int .i64 C.b1, .int .i64 C.b2, .int .i64 C.b3, .int .i64 C.r, .int .i64 C.wk, .int .i64 C.lg, .int .i64 C.roots, .int .i64 ((C.roots : Int) + C.r), .int .i64 C.bits, .int .i64 0, .int .i64 0, .int .i64 0, .int .i64 0, .int .i64 C.b0, .int .i64 ((C.b0 : Int) + C.b1), .int .i64 0, .int .i64 0, .int .i64 0] w (((wc.setCell ⟨w.heap.size + 1, 14, none⟩ (.int .i64 0)).setCell ⟨w.heap.size + 1, 15, none⟩ (.int .i64 C.b0)).setCell ⟨w.heap.size + 1, 16, none⟩ (.int .i64 ((C.b0 : Int) + C.b1))) := by
      have := s1.set 16 (.int .i64 ((C.b0 : Int) + C.b1))
      simpa only [List.setIfInBounds_toArray, List.set_cons_zero, List.set_cons_succ] using this
    have s3 : LyR C A cap #[.slice A C.n cap, .int .i64 C.b0, .int .i64 C.b1, .int .i64 C.b2, .int .i64 C.b3, .int .i64 C.r, .int .i64 C.wk, .int .i64 C.lg, .int .i64 C.roots, .int .i64 ((C.roots : Int) + C.r), .int .i64 C.bits, .int .i64 0, .int .i64 0, .int .i64 0, .int .i64 0, .int .i64 C.b0, .int .i64 ((C.b0 : Int) + C.b1), .int .i64 ((C.b0 : Int) + C.b1 + C.b2), .int .i64 0, .int .i64 0] w ((((wc.setCell ⟨w.heap.size + 1, 14, none⟩ (.int .i64 0)).setCell ⟨w.heap.size + 1, 15, none⟩ (.int .i64 C.b0)).setCell ⟨w.heap.size + 1, 16, none⟩ (.int .i64 ((C.b0 : Int) + C.b1))).setCell ⟨w.heap.size + 1, 17, none⟩ (.int .i64 ((C.b0 : Int) + C.b1 + C.b2))) := by
      have := s2.set 17 (.int .i64 ((C.b0 : Int) + C.b1 + C.b2))
      simpa only [List.setIfInBounds_toArray, List.set_cons_zero, List.set_cons_succ] using this
    have s4 : LyR C A cap #[.slice A C.n cap, .int .i64 C.b0, .int .i64 C.b1, .int .i64 C.b2, .int .i64 C.b3, .int .i64 C.r, .int .i64 C.wk, .int .i64 C.lg, .int .i64 C.roots, .int .i64 ((C.roots : Int) + C.r), .int .i64 C.bits, .int .i64 0, .int .i64 0, .int .i64 0, .int .i64 0, .int .i64 C.b0, .int .i64 ((C.b0 : Int) + C.b1), .int .i64 ((C.b0 : Int) + C.b1 + C.b2), .int .i64 ((C.b0 : Int) + C.b1 + C.b2 + C.b3), .int .i64 0] w (((((wc.setCell ⟨w.heap.size + 1, 14, none⟩ (.int .i64 0)).setCell ⟨w.heap.size + 1, 15, none⟩ (.int .i64 C.b0)).setCell ⟨w.heap.size + 1, 16, none⟩ (.int .i64 ((C.b0 : Int) + C.b1))).setCell ⟨w.heap.size + 1, 17, none⟩ (.int .i64 ((C.b0 : Int) + C.b1 + C.b2))).setCell ⟨w.heap.size + 1, 18, none⟩ (.int .i64 ((C.b0 : Int) + C.b1 + C.b2 + C.b3))) := by
      have := s3.set 18 (.int .i64 ((C.b0 : Int) + C.b1 + C.b2 + C.b3))
      simpa only [List.setIfInBounds_toArray, List.set_cons_zero, List.set_cons_succ] using this
    have s5 : LyR C A cap #[.slice A C.n cap, .int .i64 C.b0, .int .i64 C.b1, .int .i64 C.b2, .int .i64 C.b3, .int .i64 C.r, .int .i64 C.wk, .int .i64 C.lg, .int .i64 C.roots, .int .i64 ((C.roots : Int) + C.r), .int .i64 C.bits, .int .i64 C.log, .int .i64 0, .int .i64 0, .int .i64 0, .int .i64 C.b0, .int .i64 ((C.b0 : Int) + C.b1), .int .i64 ((C.b0 : Int) + C.b1 + C.b2), .int .i64 ((C.b0 : Int) + C.b1 + C.b2 + C.b3), .int .i64 0] w ((((((wc.setCell ⟨w.heap.size + 1, 14, none⟩ (.int .i64 0)).setCell ⟨w.heap.size + 1, 15, none⟩ (.int .i64 C.b0)).setCell ⟨w.heap.size + 1, 16, none⟩ (.int .i64 ((C.b0 : Int) + C.b1))).setCell ⟨w.heap.size + 1, 17, none⟩ (.int .i64 ((C.b0 : Int) + C.b1 + C.b2))).setCell ⟨w.heap.size + 1, 18, none⟩ (.int .i64 ((C.b0 : Int) + C.b1 + C.b2 + C.b3))).setCell ⟨w.heap.size + 1, 11, none⟩ (.int .i64 C.log)) := by
      have := s4.set 11 (.int .i64 C.log)
      simpa only [List.setIfInBounds_toArray, List.set_cons_zero, List.set_cons_succ] using this
    exact s5
  have HF := Lib.hid HF0
  clear HF0 hL hC hK H4
  go_wp2
  refine wp_loop_rounds 5 ?_
  rw [rounds_succ]; go_wp2
  rw [rounds_succ]; go_wp2
  rw [rounds_succ]; go_wp2
  rw [rounds_succ]; go_wp2
  rw [rounds_succ]; go_wp2_with fail
  (with_reducible refine (l3 _).mono ?_)
  rintro e w' ⟨rfl, rfl⟩
  go_upto_region 14 with fail
  refine gen_world (R := LyR C A cap #[.slice A C.n cap, .int .i64 C.b0, .int .i64 C.b1, .int .i64 C.b2, .int .i64 C.b3, .int .i64 C.r, .int .i64 C.wk, .int .i64 C.lg, .int .i64 C.roots, .int .i64 ((C.roots : Int) + C.r), .int .i64 C.bits, .int .i64 C.log, .int .i64 0, .int .i64 0, .int .i64 0, .int .i64 C.b0, .int .i64 ((C.b0 : Int) + C.b1), .int .i64 ((C.b0 : Int) + C.b1 + C.b2), .int .i64 ((C.b0 : Int) + C.b1 + C.b2 + C.b3), .int .i64 0] w) (HF.out _ (by with_reducible rfl)) ?_
  clear HF y10 y11 y14 y15 y16 y17 y18 f11 f14 f15 f16 f17 f18 q1 q2 q3 q4
  generalize wc = wq at *
  intro wb hb
  have H5 := Lib.hid hb
  obtain ⟨hL, hC, hK⟩ := hb
  have y11 := (hL.cell 11).trans (show _ = some (Value.int .i64 C.log) from rfl)
  have y12 := (hL.cell 12).trans (show _ = some (Value.int .i64 0) from rfl)
  have f12 := hL.frozen 12
  have q7 := (hC.cell 7).trans (show _ = some (Value.int .i64 C.lg) from rfl)
  clear hL hC hK
  go_cut [] (fun wx => LyR C A cap #[.slice A C.n cap, .int .i64 C.b0, .int .i64 C.b1, .int .i64 C.b2, .int .i64 C.b3, .int .i64 C.r, .int .i64 C.wk, .int .i64 C.lg, .int .i64 C.roots, .int .i64 ((C.roots : Int) + C.r), .int .i64 C.bits, .int .i64 C.log, .int .i64 ((C.log : Int) + C.lg), .int .i64 0, .int .i64 0, .int .i64 C.b0, .int .i64 ((C.b0 : Int) + C.b1), .int .i64 ((C.b0 : Int) + C.b1 + C.b2), .int .i64 ((C.b0 : Int) + C.b1 + C.b2 + C.b3), .int .i64 0] w wx)
  case first =>
    go_wp2_with fail
    go_region
    all_goals
      go_wp2_with fail
      go_meet
      first | exact (H5.out.drew.set 12 _) | exact (H5.out.set 12 _).drew
  case rest =>
  clear y11 y12 f12 q7 H5
  have H6 := Lib.hid hcut
  obtain ⟨hL, hC, hK⟩ := hcut
  have y12 := (hL.cell 12).trans (show _ = some (Value.int .i64 ((C.log : Int) + C.lg)) from rfl)
  have y13 := (hL.cell 13).trans (show _ = some (Value.int .i64 0) from rfl)
  have y19 := (hL.cell 19).trans (show _ = some (Value.int .i64 0) from rfl)
  have f13 := hL.frozen 13
  have f19 := hL.frozen 19
  have q1 := (hC.cell 1).trans (show _ = some (Value.int .i64 C.b0) from rfl)
  have q2 := (hC.cell 2).trans (show _ = some (Value.int .i64 C.b1) from rfl)
  have q3 := (hC.cell 3).trans (show _ = some (Value.int .i64 C.b2) from rfl)
  have q4 := (hC.cell 4).trans (show _ = some (Value.int .i64 C.b3) from rfl)
  have HF0 : ∀ wx, wx = (wc.setCell ⟨w.heap.size + 1, 13, none⟩ (.int .i64 ((C.log : Int) + C.lg))).setCell ⟨w.heap.size + 1, 19, none⟩ (.int .i64 C.words) → LyR C A cap #[.slice A C.n cap, .int .i64 C.b0, .int .i64 C.b1, .int .i64 C.b2, .int .i64 C.b3, .int .i64 C.r, .int .i64 C.wk, .int .i64 C.lg, .int .i64 C.roots, .int .i64 ((C.roots : Int) + C.r), .int .i64 C.bits, .int .i64 C.log, .int .i64 ((C.log : Int) + C.lg), .int .i64 ((C.log : Int) + C.lg), .int .i64 0, .int .i64 C.b0, .int .i64 ((C.b0 : Int) + C.b1), .int .i64 ((C.b0 : Int) + C.b1 + C.b2), .int .i64 ((C.b0 : Int) + C.b1 + C.b2 + C.b3), .int .i64 C.words] w wx := by
    rintro _ rfl
    have s0 : LyR C A cap #[.slice A C.n cap, .int .i64 C.b0, .int .i64 C.b1, .int .i64 C.b2, .int .i64 C.b3, .int .i64 C.r, .int .i64 C.wk, .int .i64 C.lg, .int .i64 C.roots, .int .i64 ((C.roots : Int) + C.r), .int .i64 C.bits, .int .i64 C.log, .int .i64 ((C.log : Int) + C.lg), .int .i64 ((C.log : Int) + C.lg), .int .i64 0, .int .i64 C.b0, .int .i64 ((C.b0 : Int) + C.b1), .int .i64 ((C.b0 : Int) + C.b1 + C.b2), .int .i64 ((C.b0 : Int) + C.b1 + C.b2 + C.b3), .int .i64 0] w (wc.setCell ⟨w.heap.size + 1, 13, none⟩ (.int .i64 ((C.log : Int) + C.lg))) := by
      have := H6.out.set 13 (.int .i64 ((C.log : Int) + C.lg))
      simpa only [List.setIfInBounds_toArray, List.set_cons_zero, List.set_cons_succ] using this
    have := s0.set 19 (.int .i64 C.words)
    simpa only [List.setIfInBounds_toArray, List.set_cons_zero, List.set_cons_succ] using this
  have HF := Lib.hid HF0
  clear HF0 hL hC hK H6
  go_wp2
  refine wp_loop_rounds 5 ?_
  rw [rounds_succ]; go_wp2_with fail
  (with_reducible refine (z0 _).mono ?_)
  rintro e w' ⟨rfl, rfl⟩
  go_wp2
  rw [rounds_succ]; go_wp2_with fail
  (with_reducible refine (z1 _).mono ?_)
  rintro e w' ⟨rfl, rfl⟩
  go_wp2
  rw [rounds_succ]; go_wp2_with fail
  (with_reducible refine (z2 _).mono ?_)
  rintro e w' ⟨rfl, rfl⟩
  go_wp2
  rw [rounds_succ]; go_wp2_with fail
  (with_reducible refine (z3 _).mono ?_)
  rintro e w' ⟨rfl, rfl⟩
  go_wp2
  rw [rounds_succ]; go_wp2_with fail
  (with_reducible refine (l5 _).mono ?_)
  rintro e w' ⟨rfl, rfl⟩
  go_wp2
  go_ret
  have hf := HF.out _ rfl
  refine ⟨w.heap.size + 1, rfl, ?_, hf.2.2⟩
  have hB := hf.1
  have e1 : (C.f1 : Int) = C.b0 := rfl
  have e2 : (C.f2 : Int) = (C.b0 : Int) + C.b1 := by unfold Cf.f2; omega
  have e3 : (C.f3 : Int) = (C.b0 : Int) + C.b1 + C.b2 := by unfold Cf.f3; omega
  have e4 : (C.all : Int) = (C.b0 : Int) + C.b1 + C.b2 + C.b3 := by unfold Cf.all; omega
  unfold RLy
  rw [e1, e2, e3, e4]
  exact hB
end Go.Proofs.Ytfihaaciaobolaa
