/-
  Package layout: New; what a layout is in memory. No conditions but what is in memory.
-/
import Derived.Test.YtfihaaciaobolaaLay3
namespace Go.Proofs.Ytfihaaciaobolaa
open Go.RowKit Go.Flo Go.Bit
set_option maxRecDepth 100000

/-- A layout in memory. -/
def Lyt (w : World) (g : Nat) (C : Cf) (m : Nat → Nat) (f : Nat → Nat → Int) : Prop :=
  ∃ A cap, Blk w g 75 #[.slice A C.n cap, .int .i64 C.b0, .int .i64 C.b1, .int .i64 C.b2, .int .i64 C.b3, .int .i64 C.r, .int .i64 C.wk, .int .i64 C.lg, .int .i64 C.roots, .int .i64 C.bits, .int .i64 C.log, .int .i64 C.words, .int .i64 0, .int .i64 C.f1, .int .i64 C.f2, .int .i64 C.f3, .int .i64 C.all, .int .i64 C.s0, .int .i64 C.s1, .int .i64 C.s2, .int .i64 C.s3] ∧ KRow w A C.n cap m f
theorem Lyt.keep {w w' : World} {g : Nat} {C : Cf} {m : Nat → Nat} {f : Nat → Nat → Int} (h : Lyt w g C m f) (hk : Keep [] w w') : Lyt w' g C m f := by
  obtain ⟨A, cap, h1, h2⟩ := h
  exact ⟨A, cap, h1.keep hk (by simp), h2.keep hk⟩
/-- A layout that was not there. -/
def LytPost (C : Cf) (m : Nat → Nat) (f : Nat → Nat → Int) (w : World) (e : Ending) (w' : World) : Prop :=
  ∃ g, e = .returned (.tuple #[.pointer (some ⟨g, 0, none⟩), .int .i64 0]) ∧ Lyt w' g C m f ∧ Keep [] w w'

theorem new_no (w : World) (A : Option Addr) (n cap : Nat) (m : Nat → Nat) (f : Nat → Nat → Int) (b0 b1 b2 b3 r wk lg : Int) (hlg : -9223372036854775808 ≤ lg ∧ lg ≤ 9223372036854775807) (h : KRow w A n cap m f) (hM : ¬ MayC n m f b0 b1 b2 b3 r wk lg) :
    Calls Try.prog 10 #[.agg #[.slice A n cap, .int .i64 b0, .int .i64 b1, .int .i64 b2, .int .i64 b3, .int .i64 r, .int .i64 wk, .int .i64 lg]] w fun e w' => e = .returned (.tuple #[.pointer none, .int .i64 1]) ∧ Keep [] w w' := by
  have k1 : Keep [] w (w.alloc (.cells #[.slice A n cap, .int .i64 b0, .int .i64 b1, .int .i64 b2, .int .i64 b3, .int .i64 r, .int .i64 wk, .int .i64 lg] 27)) := Keep.alloc _ _
  have h1 := may_any _ A n cap m f b0 b1 b2 b3 r wk lg hlg (h.keep k1)
  rw [show mayE n m f b0 b1 b2 b3 r wk lg = 1 from if_neg hM] at h1
  clear h hM
  go_enter Try.func10, Try.ntmps10
  go_wp2_with fail
  (with_reducible refine h1.mono ?_)
  rintro e w1 ⟨rfl, k2⟩
  go_wp2
  go_ret2
  exact ⟨rfl, k1.trans k2⟩

set_option maxHeartbeats 1000000 in
theorem new_yes (w : World) (A : Option Addr) (cap : Nat) (C : Cf) (m : Nat → Nat) (f : Nat → Nat → Int) (ok : C.Ok) (hk : MayKs C.n m f) (h : KRow w A C.n cap m f) :
    Calls Try.prog 10 #[.agg #[.slice A C.n cap, .int .i64 C.b0, .int .i64 C.b1, .int .i64 C.b2, .int .i64 C.b3, .int .i64 C.r, .int .i64 C.wk, .int .i64 C.lg]] w (LytPost C m f w) := by
  have hb := Blk.new w 27 #[.slice A C.n cap, .int .i64 C.b0, .int .i64 C.b1, .int .i64 C.b2, .int .i64 C.b3, .int .i64 C.r, .int .i64 C.wk, .int .i64 C.lg]
  have k1 : Keep [] w (w.alloc (.cells #[.slice A C.n cap, .int .i64 C.b0, .int .i64 C.b1, .int .i64 C.b2, .int .i64 C.b3, .int .i64 C.r, .int .i64 C.wk, .int .i64 C.lg] 27)) := Keep.alloc _ _
  have hM : MayC C.n m f C.b0 C.b1 C.b2 C.b3 C.r C.wk C.lg := ⟨hk, ⟨⟨by omega, by have := ok.b0; omega⟩, ⟨by omega, by have := ok.b1; omega⟩, ⟨by omega, by have := ok.b2; omega⟩, ⟨by omega, by have := ok.b3; omega⟩, by have := ok.all; omega⟩, ⟨by have := ok.r1; omega, by have := ok.r; omega, by omega, by have := ok.wk; omega⟩, ⟨by have := ok.lg1; omega, by have := ok.lg; omega, by have := ok.lg8; omega⟩⟩
  have h1 := may_any _ A C.n cap m f C.b0 C.b1 C.b2 C.b3 C.r C.wk C.lg ⟨by omega, by have := ok.lg; omega⟩ (h.keep k1)
  rw [show mayE C.n m f C.b0 C.b1 C.b2 C.b3 C.r C.wk C.lg = 0 from if_pos hM] at h1
  have hp := fun W => place_any C ok A cap W
  have hc := fun W hh => copied_any W A C.n cap m f C.b0 C.b1 C.b2 C.b3 C.r C.wk C.lg (by have := ok.n; omega) (fun i hi => by have := (hk.2.2 i hi).2.1; omega) hh
  have HI := Lib.hid h
  clear hM hk h
  go_enter Try.func10, Try.ntmps10
  go_wp2_with fail
  (with_reducible refine h1.mono ?_)
  rintro e w2 ⟨rfl, k2⟩
  have hb2 := hb.keep k2 (by simp)
  have q0 := (hb2.cell 0).trans (show _ = some (Value.slice A C.n cap) from rfl)
  have q1 := (hb2.cell 1).trans (show _ = some (Value.int .i64 C.b0) from rfl)
  have q2 := (hb2.cell 2).trans (show _ = some (Value.int .i64 C.b1) from rfl)
  have q3 := (hb2.cell 3).trans (show _ = some (Value.int .i64 C.b2) from rfl)
  have q4 := (hb2.cell 4).trans (show _ = some (Value.int .i64 C.b3) from rfl)
  have q5 := (hb2.cell 5).trans (show _ = some (Value.int .i64 C.r) from rfl)
  have q6 := (hb2.cell 6).trans (show _ = some (Value.int .i64 C.wk) from rfl)
  have q7 := (hb2.cell 7).trans (show _ = some (Value.int .i64 C.lg) from rfl)
  clear h1
  go_wp2_with fail
  (with_reducible refine (hp _).mono ?_)
  rintro e w3 ⟨rfl, k3⟩
  have hb3 := hb2.keep k3 (by simp)
  have hlt3 := hb3.lt
  clear q0 q1 q2 q3 q4 q5 q6 q7 hp
  have hG0 := Blk.new w3 75 #[.slice none 0 0, .int .i64 0, .int .i64 0, .int .i64 0, .int .i64 0, .int .i64 0, .int .i64 0, .int .i64 0, .int .i64 0, .int .i64 0, .int .i64 0, .int .i64 0, .int .i64 0, .int .i64 0, .int .i64 0, .int .i64 0, .int .i64 0, .int .i64 0, .int .i64 0, .int .i64 0, .int .i64 0]
  have hG : Blk ((w3.alloc (.cells #[.slice none 0 0, .int .i64 0, .int .i64 0, .int .i64 0, .int .i64 0, .int .i64 0, .int .i64 0, .int .i64 0, .int .i64 0, .int .i64 0, .int .i64 0, .int .i64 0, .int .i64 0, .int .i64 0, .int .i64 0, .int .i64 0, .int .i64 0, .int .i64 0, .int .i64 0, .int .i64 0, .int .i64 0] 75)).setRow w3.heap.size #[.slice none 0 0, .int .i64 0, .int .i64 0, .int .i64 0, .int .i64 0, .int .i64 0, .int .i64 0, .int .i64 0, .int .i64 C.roots, .int .i64 C.bits, .int .i64 C.log, .int .i64 C.words, .int .i64 0, .int .i64 C.f1, .int .i64 C.f2, .int .i64 C.f3, .int .i64 C.all, .int .i64 C.s0, .int .i64 C.s1, .int .i64 C.s2, .int .i64 C.s3]) w3.heap.size 75 #[.slice none 0 0, .int .i64 0, .int .i64 0, .int .i64 0, .int .i64 0, .int .i64 0, .int .i64 0, .int .i64 0, .int .i64 C.roots, .int .i64 C.bits, .int .i64 C.log, .int .i64 C.words, .int .i64 0, .int .i64 C.f1, .int .i64 C.f2, .int .i64 C.f3, .int .i64 C.all, .int .i64 C.s0, .int .i64 C.s1, .int .i64 C.s2, .int .i64 C.s3] := setRow_heap _ _ _ _ _ _ hG0
  have k4 : Keep [] w3 ((w3.alloc (.cells #[.slice none 0 0, .int .i64 0, .int .i64 0, .int .i64 0, .int .i64 0, .int .i64 0, .int .i64 0, .int .i64 0, .int .i64 0, .int .i64 0, .int .i64 0, .int .i64 0, .int .i64 0, .int .i64 0, .int .i64 0, .int .i64 0, .int .i64 0, .int .i64 0, .int .i64 0, .int .i64 0, .int .i64 0] 75)).setRow w3.heap.size #[.slice none 0 0, .int .i64 0, .int .i64 0, .int .i64 0, .int .i64 0, .int .i64 0, .int .i64 0, .int .i64 0, .int .i64 C.roots, .int .i64 C.bits, .int .i64 C.log, .int .i64 C.words, .int .i64 0, .int .i64 C.f1, .int .i64 C.f2, .int .i64 C.f3, .int .i64 C.all, .int .i64 C.s0, .int .i64 C.s1, .int .i64 C.s2, .int .i64 C.s3]) := (Keep.alloc w3 _).since (Keep.setRow (own := [w3.heap.size]) _ _ (by simp) _) (by simp)
  have e4 : ((w3.alloc (.cells #[.slice none 0 0, .int .i64 0, .int .i64 0, .int .i64 0, .int .i64 0, .int .i64 0, .int .i64 0, .int .i64 0, .int .i64 0, .int .i64 0, .int .i64 0, .int .i64 0, .int .i64 0, .int .i64 0, .int .i64 0, .int .i64 0, .int .i64 0, .int .i64 0, .int .i64 0, .int .i64 0, .int .i64 0] 75)).setRow w3.heap.size #[.slice none 0 0, .int .i64 0, .int .i64 0, .int .i64 0, .int .i64 0, .int .i64 0, .int .i64 0, .int .i64 0, .int .i64 C.roots, .int .i64 C.bits, .int .i64 C.log, .int .i64 C.words, .int .i64 0, .int .i64 C.f1, .int .i64 C.f2, .int .i64 C.f3, .int .i64 C.all, .int .i64 C.s0, .int .i64 C.s1, .int .i64 C.s2, .int .i64 C.s3]).heap.size = w3.heap.size + 1 := by simp
  have hb4 := hb3.keep k4 (by simp)
  have hc4 := hc _ (HI.out.keep (((k1.trans k2).trans k3).trans k4))
  have k62 : (Try.prog.info? 75).map (·.size) = some (#[.slice none 0 0, .int .i64 0, .int .i64 0, .int .i64 0, .int .i64 0, .int .i64 0, .int .i64 0, .int .i64 0, .int .i64 C.roots, .int .i64 C.bits, .int .i64 C.log, .int .i64 C.words, .int .i64 0, .int .i64 C.f1, .int .i64 C.f2, .int .i64 C.f3, .int .i64 C.all, .int .i64 C.s0, .int .i64 C.s1, .int .i64 C.s2, .int .i64 C.s3] : Array Value).size := by kernel_rfl
  have h1c : (#[.slice none 0 0, .int .i64 0, .int .i64 0, .int .i64 0, .int .i64 0, .int .i64 0, .int .i64 0, .int .i64 0, .int .i64 C.roots, .int .i64 C.bits, .int .i64 C.log, .int .i64 C.words, .int .i64 0, .int .i64 C.f1, .int .i64 C.f2, .int .i64 C.f3, .int .i64 C.all, .int .i64 C.s0, .int .i64 C.s1, .int .i64 C.s2, .int .i64 C.s3] : Array Value).all (·.oneCell') = true := by first | kernel_rfl | simp [Value.oneCell']
  have q0 := (hb3.cell 0).trans (show _ = some (Value.slice A C.n cap) from rfl)
  have q1 := (hb3.cell 1).trans (show _ = some (Value.int .i64 C.b0) from rfl)
  have q2 := (hb3.cell 2).trans (show _ = some (Value.int .i64 C.b1) from rfl)
  have q3 := (hb3.cell 3).trans (show _ = some (Value.int .i64 C.b2) from rfl)
  have q4 := (hb3.cell 4).trans (show _ = some (Value.int .i64 C.b3) from rfl)
  have q5 := (hb3.cell 5).trans (show _ = some (Value.int .i64 C.r) from rfl)
  have q6 := (hb3.cell 6).trans (show _ = some (Value.int .i64 C.wk) from rfl)
  have q7 := (hb3.cell 7).trans (show _ = some (Value.int .i64 C.lg) from rfl)
  have p0 := (hb4.cell 0).trans (show _ = some (Value.slice A C.n cap) from rfl)
  have p1 := (hb4.cell 1).trans (show _ = some (Value.int .i64 C.b0) from rfl)
  have p2 := (hb4.cell 2).trans (show _ = some (Value.int .i64 C.b1) from rfl)
  have p3 := (hb4.cell 3).trans (show _ = some (Value.int .i64 C.b2) from rfl)
  have p4 := (hb4.cell 4).trans (show _ = some (Value.int .i64 C.b3) from rfl)
  have p5 := (hb4.cell 5).trans (show _ = some (Value.int .i64 C.r) from rfl)
  have p6 := (hb4.cell 6).trans (show _ = some (Value.int .i64 C.wk) from rfl)
  have p7 := (hb4.cell 7).trans (show _ = some (Value.int .i64 C.lg) from rfl)
  clear hc hb3 hb2 hb
  go_wp2_with (refine wpList_store_row rfl 75 (.tmp 5) (.tmp 12) rfl w3.heap.size #[.slice none 0 0, .int .i64 0, .int .i64 0, .int .i64 0, .int .i64 0, .int .i64 0, .int .i64 0, .int .i64 0, .int .i64 C.roots, .int .i64 C.bits, .int .i64 C.log, .int .i64 C.words, .int .i64 0, .int .i64 C.f1, .int .i64 C.f2, .int .i64 C.f3, .int .i64 C.all, .int .i64 C.s0, .int .i64 C.s1, .int .i64 C.s2, .int .i64 C.s3] rfl rfl 75 #[.slice none 0 0, .int .i64 0, .int .i64 0, .int .i64 0, .int .i64 0, .int .i64 0, .int .i64 0, .int .i64 0, .int .i64 0, .int .i64 0, .int .i64 0, .int .i64 0, .int .i64 0, .int .i64 0, .int .i64 0, .int .i64 0, .int .i64 0, .int .i64 0, .int .i64 0, .int .i64 0, .int .i64 0] hG0 k62 rfl h1c ?_)
  (with_reducible refine hc4.mono ?_)
  rintro e w5 ⟨A5, cap5, rfl, hK5, k5⟩
  have hG5 := hG.keep k5 (by simp)
  have y0 := (hG5.cell 0).trans (show _ = some (Value.slice none 0 0) from rfl)
  have y1 := (hG5.cell 1).trans (show _ = some (Value.int .i64 0) from rfl)
  have y2 := (hG5.cell 2).trans (show _ = some (Value.int .i64 0) from rfl)
  have y3 := (hG5.cell 3).trans (show _ = some (Value.int .i64 0) from rfl)
  have y4 := (hG5.cell 4).trans (show _ = some (Value.int .i64 0) from rfl)
  have y5 := (hG5.cell 5).trans (show _ = some (Value.int .i64 0) from rfl)
  have y6 := (hG5.cell 6).trans (show _ = some (Value.int .i64 0) from rfl)
  have y7 := (hG5.cell 7).trans (show _ = some (Value.int .i64 0) from rfl)
  have z0 := hG5.frozen 0
  have z1 := hG5.frozen 1
  have z2 := hG5.frozen 2
  have z3 := hG5.frozen 3
  have z4 := hG5.frozen 4
  have z5 := hG5.frozen 5
  have z6 := hG5.frozen 6
  have z7 := hG5.frozen 7
  have hfin : ∀ W, W = ((((((((w5.setCell ⟨w3.heap.size, 0, none⟩ (.slice A5 C.n cap5)).setCell ⟨w3.heap.size, 1, none⟩ (.int .i64 C.b0)).setCell ⟨w3.heap.size, 2, none⟩ (.int .i64 C.b1)).setCell ⟨w3.heap.size, 3, none⟩ (.int .i64 C.b2)).setCell ⟨w3.heap.size, 4, none⟩ (.int .i64 C.b3)).setCell ⟨w3.heap.size, 5, none⟩ (.int .i64 C.r)).setCell ⟨w3.heap.size, 6, none⟩ (.int .i64 C.wk)).setCell ⟨w3.heap.size, 7, none⟩ (.int .i64 C.lg)) → Lyt W w3.heap.size C m f ∧ Keep [] w W := by
    rintro _ rfl
    have ks : Keep [w3.heap.size] w5 (((((((((w5.setCell ⟨w3.heap.size, 0, none⟩ (.slice A5 C.n cap5)).setCell ⟨w3.heap.size, 1, none⟩ (.int .i64 C.b0)).setCell ⟨w3.heap.size, 2, none⟩ (.int .i64 C.b1)).setCell ⟨w3.heap.size, 3, none⟩ (.int .i64 C.b2)).setCell ⟨w3.heap.size, 4, none⟩ (.int .i64 C.b3)).setCell ⟨w3.heap.size, 5, none⟩ (.int .i64 C.r)).setCell ⟨w3.heap.size, 6, none⟩ (.int .i64 C.wk)).setCell ⟨w3.heap.size, 7, none⟩ (.int .i64 C.lg))) := ((((((((Keep.setCell _ _ (by simp) _).trans (Keep.setCell _ _ (by simp) _)).trans (Keep.setCell _ _ (by simp) _)).trans (Keep.setCell _ _ (by simp) _)).trans (Keep.setCell _ _ (by simp) _)).trans (Keep.setCell _ _ (by simp) _)).trans (Keep.setCell _ _ (by simp) _)).trans (Keep.setCell _ _ (by simp) _))
    have hkk : Keep [] w w5 := (((k1.trans k2).trans k3).trans k4).trans k5
    have s0 : Blk (w5.setCell ⟨w3.heap.size, 0, none⟩ (.slice A5 C.n cap5)) w3.heap.size 75 #[.slice A5 C.n cap5, .int .i64 0, .int .i64 0, .int .i64 0, .int .i64 0, .int .i64 0, .int .i64 0, .int .i64 0, .int .i64 C.roots, .int .i64 C.bits, .int .i64 C.log, .int .i64 C.words, .int .i64 0, .int .i64 C.f1, .int .i64 C.f2, .int .i64 C.f3, .int .i64 C.all, .int .i64 C.s0, .int .i64 C.s1, .int .i64 C.s2, .int .i64 C.s3] := by
      have := hG5.set_ 0 (.slice A5 C.n cap5)
      simpa only [List.setIfInBounds_toArray, List.set_cons_zero, List.set_cons_succ] using this
    have s1 : Blk ((w5.setCell ⟨w3.heap.size, 0, none⟩ (.slice A5 C.n cap5)).setCell ⟨w3.heap.size, 1, none⟩ (.int .i64 C.b0)) w3.heap.size 75 #[.slice A5 C.n cap5, .int .i64 C.b0, .int .i64 0, .int .i64 0, .int .i64 0, .int .i64 0, .int .i64 0, .int .i64 0, .int .i64 C.roots, .int .i64 C.bits, .int .i64 C.log, .int .i64 C.words, .int .i64 0, .int .i64 C.f1, .int .i64 C.f2, .int .i64 C.f3, .int .i64 C.all, .int .i64 C.s0, .int .i64 C.s1, .int .i64 C.s2, .int .i64 C.s3] := by
      have := s0.set_ 1 (.int .i64 C.b0)
      simpa only [List.setIfInBounds_toArray, List.set_cons_zero, List.set_cons_succ] using this
    have s2 : Blk (((w5.setCell ⟨w3.heap.size, 0, none⟩ (.slice A5 C.n cap5)).setCell ⟨w3.heap.size, 1, none⟩ (.int .i64 C.b0)).setCell ⟨w3.heap.size, 2, none⟩ (.int .i64 C.b1)) w3.heap.size 75 #[.slice A5 C.n cap5, .int .i64 C.b0, .int .i64 C.b1, .int .i64 0, .int .i64 0, .int .i64 0, .int .i64 0, .int .i64 0, .int .i64 C.roots, .int .i64 C.bits, .int .i64 C.log, .int .i64 C.words, .int .i64 0, .int .i64 C.f1, .int .i64 C.f2, .int .i64 C.f3, .int .i64 C.all, .int .i64 C.s0, .int .i64 C.s1, .int .i64 C.s2, .int .i64 C.s3] := by
      have := s1.set_ 2 (.int .i64 C.b1)
      simpa only [List.setIfInBounds_toArray, List.set_cons_zero, List.set_cons_succ] using this
    have s3 : Blk ((((w5.setCell ⟨w3.heap.size, 0, none⟩ (.slice A5 C.n cap5)).setCell ⟨w3.heap.size, 1, none⟩ (.int .i64 C.b0)).setCell ⟨w3.heap.size, 2, none⟩ (.int .i64 C.b1)).setCell ⟨w3.heap.size, 3, none⟩ (.int .i64 C.b2)) w3.heap.size 75 #[.slice A5 C.n cap5, .int .i64 C.b0, .int .i64 C.b1, .int .i64 C.b2, .int .i64 0, .int .i64 0, .int .i64 0, .int .i64 0, .int .i64 C.roots, .int .i64 C.bits, .int .i64 C.log, .int .i64 C.words, .int .i64 0, .int .i64 C.f1, .int .i64 C.f2, .int .i64 C.f3, .int .i64 C.all, .int .i64 C.s0, .int .i64 C.s1, .int .i64 C.s2, .int .i64 C.s3] := by
      have := s2.set_ 3 (.int .i64 C.b2)
      simpa only [List.setIfInBounds_toArray, List.set_cons_zero, List.set_cons_succ] using this
    have s4 : Blk (((((w5.setCell ⟨w3.heap.size, 0, none⟩ (.slice A5 C.n cap5)).setCell ⟨w3.heap.size, 1, none⟩ (.int .i64 C.b0)).setCell ⟨w3.heap.size, 2, none⟩ (.int .i64 C.b1)).setCell ⟨w3.heap.size, 3, none⟩ (.int .i64 C.b2)).setCell ⟨w3.heap.size, 4, none⟩ (.int .i64 C.b3)) w3.heap.size 75 #[.slice A5 C.n cap5, .int .i64 C.b0, .int .i64 C.b1, .int .i64 C.b2, .int .i64 C.b3, .int .i64 0, .int .i64 0, .int .i64 0, .int .i64 C.roots, .int .i64 C.bits, .int .i64 C.log, .int .i64 C.words, .int .i64 0, .int .i64 C.f1, .int .i64 C.f2, .int .i64 C.f3, .int .i64 C.all, .int .i64 C.s0, .int .i64 C.s1, .int .i64 C.s2, .int .i64 C.s3] := by
      have := s3.set_ 4 (.int .i64 C.b3)
      simpa only [List.setIfInBounds_toArray, List.set_cons_zero, List.set_cons_succ] using this
    have s5 : Blk ((((((w5.setCell ⟨w3.heap.size, 0, none⟩ (.slice A5 C.n cap5)).setCell ⟨w3.heap.size, 1, none⟩ (.int .i64 C.b0)).setCell ⟨w3.heap.size, 2, none⟩ (.int .i64 C.b1)).setCell ⟨w3.heap.size, 3, none⟩ (.int .i64 C.b2)).setCell ⟨w3.heap.size, 4, none⟩ (.int .i64 C.b3)).setCell ⟨w3.heap.size, 5, none⟩ (.int .i64 C.r)) w3.heap.size 75 #[.slice A5 C.n cap5, .int .i64 C.b0, .int .i64 C.b1, .int .i64 C.b2, .int .i64 C.b3, .int .i64 C.r, .int .i64 0, .int .i64 0, .int .i64 C.roots, .int .i64 C.bits, .int .i64 C.log, .int .i64 C.words, .int .i64 0, .int .i64 C.f1, .int .i64 C.f2, .int .i64 C.f3, .int .i64 C.all, .int .i64 C.s0, .int .i64 C.s1, .int .i64 C.s2, .int .i64 C.s3] := by
      have := s4.set_ 5 (.int .i64 C.r)
      simpa only [List.setIfInBounds_toArray, List.set_cons_zero, List.set_cons_succ] using this
    have s6 : Blk (((((((w5.setCell ⟨w3.heap.size, 0, none⟩ (.slice A5 C.n cap5)).setCell ⟨w3.heap.size, 1, none⟩ (.int .i64 C.b0)).setCell ⟨w3.heap.size, 2, none⟩ (.int .i64 C.b1)).setCell ⟨w3.heap.size, 3, none⟩ (.int .i64 C.b2)).setCell ⟨w3.heap.size, 4, none⟩ (.int .i64 C.b3)).setCell ⟨w3.heap.size, 5, none⟩ (.int .i64 C.r)).setCell ⟨w3.heap.size, 6, none⟩ (.int .i64 C.wk)) w3.heap.size 75 #[.slice A5 C.n cap5, .int .i64 C.b0, .int .i64 C.b1, .int .i64 C.b2, .int .i64 C.b3, .int .i64 C.r, .int .i64 C.wk, .int .i64 0, .int .i64 C.roots, .int .i64 C.bits, .int .i64 C.log, .int .i64 C.words, .int .i64 0, .int .i64 C.f1, .int .i64 C.f2, .int .i64 C.f3, .int .i64 C.all, .int .i64 C.s0, .int .i64 C.s1, .int .i64 C.s2, .int .i64 C.s3] := by
      have := s5.set_ 6 (.int .i64 C.wk)
      simpa only [List.setIfInBounds_toArray, List.set_cons_zero, List.set_cons_succ] using this
    have s7 : Blk ((((((((w5.setCell ⟨w3.heap.size, 0, none⟩ (.slice A5 C.n cap5)).setCell ⟨w3.heap.size, 1, none⟩ (.int .i64 C.b0)).setCell ⟨w3.heap.size, 2, none⟩ (.int .i64 C.b1)).setCell ⟨w3.heap.size, 3, none⟩ (.int .i64 C.b2)).setCell ⟨w3.heap.size, 4, none⟩ (.int .i64 C.b3)).setCell ⟨w3.heap.size, 5, none⟩ (.int .i64 C.r)).setCell ⟨w3.heap.size, 6, none⟩ (.int .i64 C.wk)).setCell ⟨w3.heap.size, 7, none⟩ (.int .i64 C.lg)) w3.heap.size 75 #[.slice A5 C.n cap5, .int .i64 C.b0, .int .i64 C.b1, .int .i64 C.b2, .int .i64 C.b3, .int .i64 C.r, .int .i64 C.wk, .int .i64 C.lg, .int .i64 C.roots, .int .i64 C.bits, .int .i64 C.log, .int .i64 C.words, .int .i64 0, .int .i64 C.f1, .int .i64 C.f2, .int .i64 C.f3, .int .i64 C.all, .int .i64 C.s0, .int .i64 C.s1, .int .i64 C.s2, .int .i64 C.s3] := by
      have := s6.set_ 7 (.int .i64 C.lg)
      simpa only [List.setIfInBounds_toArray, List.set_cons_zero, List.set_cons_succ] using this
    refine ⟨⟨A5, cap5, s7, ?_⟩, hkk.since ks (by have := ((k1.trans k2).trans k3).size; simpa using this)⟩
    exact (hK5.keepO ks (fun k hkB => by rw [e4] at hkB; simp; omega)).krow
  have HF := Lib.hid hfin
  clear hfin hG5 hG hG0 hb4 hc4 q0 q1 q2 q3 q4 q5 q6 q7 p0 p1 p2 p3 p4 p5 p6 p7
  go_wp2
  go_ret2
  exact ⟨_, rfl, HF.out _ (by with_reducible rfl)⟩
end Go.Proofs.Ytfihaaciaobolaa
