/-
  Package layout: May, copied, New. No conditions but what is in memory.
-/
import Derived.Test.YtfihaaciaobolaaLay2
namespace Go.Proofs.Ytfihaaciaobolaa
open Go.RowKit Go.Flo Go.Bit
set_option maxRecDepth 100000

set_option maxHeartbeats 1000000 in
theorem may_any (w : World) (A : Option Addr) (n cap : Nat) (m : Nat → Nat) (f : Nat → Nat → Int) (b0 b1 b2 b3 r wk lg : Int) (hlg : -9223372036854775808 ≤ lg ∧ lg ≤ 9223372036854775807) (h : KRow w A n cap m f) :
    Calls Try.prog 37 #[.agg #[.slice A n cap, .int .i64 b0, .int .i64 b1, .int .i64 b2, .int .i64 b3, .int .i64 r, .int .i64 wk, .int .i64 lg]] w fun e w' => e = .returned (.int .i64 (mayE n m f b0 b1 b2 b3 r wk lg)) ∧ Keep [] w w' := by
  have hb := Blk.new w 27 #[.slice A n cap, .int .i64 b0, .int .i64 b1, .int .i64 b2, .int .i64 b3, .int .i64 r, .int .i64 wk, .int .i64 lg]
  have k1 : Keep [] w (w.alloc (.cells #[.slice A n cap, .int .i64 b0, .int .i64 b1, .int .i64 b2, .int .i64 b3, .int .i64 r, .int .i64 wk, .int .i64 lg] 27)) := Keep.alloc _ _
  have h1 := mayKinds_any _ A n cap m f (h.keep k1)
  clear h
  by_cases c1 : MayKs n m f
  · rw [show decide (MayKs n m f) = true from decide_eq_true c1] at h1
    have h2 := fun W => mayBlocks_any b0 b1 b2 b3 W
    by_cases c2 : MayB b0 b1 b2 b3
    · rw [show decide (MayB b0 b1 b2 b3) = true from decide_eq_true c2] at h2
      have h3 := fun W => mayRoots_any A n cap b0 b1 b2 b3 r wk lg W
      by_cases c3 : MayR r wk
      · rw [show decide (MayR r wk) = true from decide_eq_true c3] at h3
        have h4 := fun W => mayLog_any lg hlg.1 hlg.2 W
        by_cases c4 : MayL lg
        · rw [show decide (MayL lg) = true from decide_eq_true c4] at h4
          have hM : MayC n m f b0 b1 b2 b3 r wk lg := ⟨c1, c2, c3, c4⟩
          have HE := Lib.hid (show mayE n m f b0 b1 b2 b3 r wk lg = 0 from if_pos hM)
          obtain ⟨C, ok, rfl, rfl, rfl, rfl, rfl, rfl, rfl, rfl⟩ := hM.cf
          have hp := fun W => place_any C ok A cap W
          have hfl : ∀ W, (Instr.field 75 (.agg #[.slice none 0 0, .int .i64 0, .int .i64 0, .int .i64 0, .int .i64 0, .int .i64 0, .int .i64 0, .int .i64 0, .int .i64 C.roots, .int .i64 C.bits, .int .i64 C.log, .int .i64 C.words, .int .i64 0, .int .i64 C.f1, .int .i64 C.f2, .int .i64 C.f3, .int .i64 C.all, .int .i64 C.s0, .int .i64 C.s1, .int .i64 C.s2, .int .i64 C.s3]) 4).run Try.prog W = .ok (.int .i64 C.words) W := fun W => by kernel_rfl
          have hw := ok.words_le
          clear c1 c2 c3 c4 hM
          go_enter Try.func37, Try.ntmps37
          go_wp2_with fail
          (with_reducible refine h1.mono ?_)
          rintro e w1 ⟨rfl, k2⟩
          have hb1 := hb.keep k2 (by simp)
          have q0 := (hb1.cell 0).trans (show _ = some (Value.slice A C.n cap) from rfl)
          have q1 := (hb1.cell 1).trans (show _ = some (Value.int .i64 C.b0) from rfl)
          have q2 := (hb1.cell 2).trans (show _ = some (Value.int .i64 C.b1) from rfl)
          have q3 := (hb1.cell 3).trans (show _ = some (Value.int .i64 C.b2) from rfl)
          have q4 := (hb1.cell 4).trans (show _ = some (Value.int .i64 C.b3) from rfl)
          have q5 := (hb1.cell 5).trans (show _ = some (Value.int .i64 C.r) from rfl)
          have q6 := (hb1.cell 6).trans (show _ = some (Value.int .i64 C.wk) from rfl)
          have q7 := (hb1.cell 7).trans (show _ = some (Value.int .i64 C.lg) from rfl)
          go_wp2_with fail
          (with_reducible refine (h2 _).mono ?_)
          rintro e w2 ⟨rfl, k3⟩
          have hb2 := hb1.keep k3 (by simp)
          clear q0 q1 q2 q3 q4 q5 q6 q7
          have q0 := (hb2.cell 0).trans (show _ = some (Value.slice A C.n cap) from rfl)
          have q1 := (hb2.cell 1).trans (show _ = some (Value.int .i64 C.b0) from rfl)
          have q2 := (hb2.cell 2).trans (show _ = some (Value.int .i64 C.b1) from rfl)
          have q3 := (hb2.cell 3).trans (show _ = some (Value.int .i64 C.b2) from rfl)
          have q4 := (hb2.cell 4).trans (show _ = some (Value.int .i64 C.b3) from rfl)
          have q5 := (hb2.cell 5).trans (show _ = some (Value.int .i64 C.r) from rfl)
          have q6 := (hb2.cell 6).trans (show _ = some (Value.int .i64 C.wk) from rfl)
          have q7 := (hb2.cell 7).trans (show _ = some (Value.int .i64 C.lg) from rfl)
          go_wp2_with fail
          (with_reducible refine (h3 _).mono ?_)
          rintro e w3 ⟨rfl, k4⟩
          have hb3 := hb2.keep k4 (by simp)
          clear q0 q1 q2 q3 q4 q5 q6 q7
          have q0 := (hb3.cell 0).trans (show _ = some (Value.slice A C.n cap) from rfl)
          have q1 := (hb3.cell 1).trans (show _ = some (Value.int .i64 C.b0) from rfl)
          have q2 := (hb3.cell 2).trans (show _ = some (Value.int .i64 C.b1) from rfl)
          have q3 := (hb3.cell 3).trans (show _ = some (Value.int .i64 C.b2) from rfl)
          have q4 := (hb3.cell 4).trans (show _ = some (Value.int .i64 C.b3) from rfl)
          have q5 := (hb3.cell 5).trans (show _ = some (Value.int .i64 C.r) from rfl)
          have q6 := (hb3.cell 6).trans (show _ = some (Value.int .i64 C.wk) from rfl)
          have q7 := (hb3.cell 7).trans (show _ = some (Value.int .i64 C.lg) from rfl)
          go_wp2_with fail
          (with_reducible refine (h4 _).mono ?_)
          rintro e w4 ⟨rfl, rfl⟩
          go_wp2_with fail
          (with_reducible refine (hp _).mono ?_)
          rintro e w5 ⟨rfl, k5⟩
          go_wp2
          go_ret
          exact ⟨by rw [HE.out]; rfl, ((((k1.trans k2).trans k3).trans k4).trans k5)⟩
        · have HE := Lib.hid (show mayE n m f b0 b1 b2 b3 r wk lg = 1 from if_neg (fun hM => c4 hM.2.2.2))
          rw [show decide (MayL lg) = false from decide_eq_false c4] at h4
          clear c1 c2 c3 c4
          go_enter Try.func37, Try.ntmps37
          go_wp2_with fail
          (with_reducible refine h1.mono ?_)
          rintro e w1 ⟨rfl, k2⟩
          have hb1 := hb.keep k2 (by simp)
          have q0 := (hb1.cell 0).trans (show _ = some (Value.slice A n cap) from rfl)
          have q1 := (hb1.cell 1).trans (show _ = some (Value.int .i64 b0) from rfl)
          have q2 := (hb1.cell 2).trans (show _ = some (Value.int .i64 b1) from rfl)
          have q3 := (hb1.cell 3).trans (show _ = some (Value.int .i64 b2) from rfl)
          have q4 := (hb1.cell 4).trans (show _ = some (Value.int .i64 b3) from rfl)
          have q5 := (hb1.cell 5).trans (show _ = some (Value.int .i64 r) from rfl)
          have q6 := (hb1.cell 6).trans (show _ = some (Value.int .i64 wk) from rfl)
          have q7 := (hb1.cell 7).trans (show _ = some (Value.int .i64 lg) from rfl)
          go_wp2_with fail
          (with_reducible refine (h2 _).mono ?_)
          rintro e w2 ⟨rfl, k3⟩
          have hb2 := hb1.keep k3 (by simp)
          clear q0 q1 q2 q3 q4 q5 q6 q7
          have q0 := (hb2.cell 0).trans (show _ = some (Value.slice A n cap) from rfl)
          have q1 := (hb2.cell 1).trans (show _ = some (Value.int .i64 b0) from rfl)
          have q2 := (hb2.cell 2).trans (show _ = some (Value.int .i64 b1) from rfl)
          have q3 := (hb2.cell 3).trans (show _ = some (Value.int .i64 b2) from rfl)
          have q4 := (hb2.cell 4).trans (show _ = some (Value.int .i64 b3) from rfl)
          have q5 := (hb2.cell 5).trans (show _ = some (Value.int .i64 r) from rfl)
          have q6 := (hb2.cell 6).trans (show _ = some (Value.int .i64 wk) from rfl)
          have q7 := (hb2.cell 7).trans (show _ = some (Value.int .i64 lg) from rfl)
          go_wp2_with fail
          (with_reducible refine (h3 _).mono ?_)
          rintro e w3 ⟨rfl, k4⟩
          have hb3 := hb2.keep k4 (by simp)
          clear q0 q1 q2 q3 q4 q5 q6 q7
          have q0 := (hb3.cell 0).trans (show _ = some (Value.slice A n cap) from rfl)
          have q1 := (hb3.cell 1).trans (show _ = some (Value.int .i64 b0) from rfl)
          have q2 := (hb3.cell 2).trans (show _ = some (Value.int .i64 b1) from rfl)
          have q3 := (hb3.cell 3).trans (show _ = some (Value.int .i64 b2) from rfl)
          have q4 := (hb3.cell 4).trans (show _ = some (Value.int .i64 b3) from rfl)
          have q5 := (hb3.cell 5).trans (show _ = some (Value.int .i64 r) from rfl)
          have q6 := (hb3.cell 6).trans (show _ = some (Value.int .i64 wk) from rfl)
          have q7 := (hb3.cell 7).trans (show _ = some (Value.int .i64 lg) from rfl)
          go_wp2_with fail
          (with_reducible refine (h4 _).mono ?_)
          rintro e w4 ⟨rfl, rfl⟩
          go_wp2
          go_ret
          exact ⟨by rw [HE.out]; rfl, (((k1.trans k2).trans k3).trans k4)⟩
      · have HE := Lib.hid (show mayE n m f b0 b1 b2 b3 r wk lg = 1 from if_neg (fun hM => c3 hM.2.2.1))
        rw [show decide (MayR r wk) = false from decide_eq_false c3] at h3
        clear c1 c2 c3
        go_enter Try.func37, Try.ntmps37
        go_wp2_with fail
        (with_reducible refine h1.mono ?_)
        rintro e w1 ⟨rfl, k2⟩
        have hb1 := hb.keep k2 (by simp)
        have q0 := (hb1.cell 0).trans (show _ = some (Value.slice A n cap) from rfl)
        have q1 := (hb1.cell 1).trans (show _ = some (Value.int .i64 b0) from rfl)
        have q2 := (hb1.cell 2).trans (show _ = some (Value.int .i64 b1) from rfl)
        have q3 := (hb1.cell 3).trans (show _ = some (Value.int .i64 b2) from rfl)
        have q4 := (hb1.cell 4).trans (show _ = some (Value.int .i64 b3) from rfl)
        have q5 := (hb1.cell 5).trans (show _ = some (Value.int .i64 r) from rfl)
        have q6 := (hb1.cell 6).trans (show _ = some (Value.int .i64 wk) from rfl)
        have q7 := (hb1.cell 7).trans (show _ = some (Value.int .i64 lg) from rfl)
        go_wp2_with fail
        (with_reducible refine (h2 _).mono ?_)
        rintro e w2 ⟨rfl, k3⟩
        have hb2 := hb1.keep k3 (by simp)
        clear q0 q1 q2 q3 q4 q5 q6 q7
        have q0 := (hb2.cell 0).trans (show _ = some (Value.slice A n cap) from rfl)
        have q1 := (hb2.cell 1).trans (show _ = some (Value.int .i64 b0) from rfl)
        have q2 := (hb2.cell 2).trans (show _ = some (Value.int .i64 b1) from rfl)
        have q3 := (hb2.cell 3).trans (show _ = some (Value.int .i64 b2) from rfl)
        have q4 := (hb2.cell 4).trans (show _ = some (Value.int .i64 b3) from rfl)
        have q5 := (hb2.cell 5).trans (show _ = some (Value.int .i64 r) from rfl)
        have q6 := (hb2.cell 6).trans (show _ = some (Value.int .i64 wk) from rfl)
        have q7 := (hb2.cell 7).trans (show _ = some (Value.int .i64 lg) from rfl)
        go_wp2_with fail
        (with_reducible refine (h3 _).mono ?_)
        rintro e w3 ⟨rfl, k4⟩
        have hb3 := hb2.keep k4 (by simp)
        clear q0 q1 q2 q3 q4 q5 q6 q7
        go_wp2
        go_ret
        exact ⟨by rw [HE.out]; rfl, (((k1.trans k2).trans k3).trans k4)⟩
    · have HE := Lib.hid (show mayE n m f b0 b1 b2 b3 r wk lg = 1 from if_neg (fun hM => c2 hM.2.1))
      rw [show decide (MayB b0 b1 b2 b3) = false from decide_eq_false c2] at h2
      clear c1 c2
      go_enter Try.func37, Try.ntmps37
      go_wp2_with fail
      (with_reducible refine h1.mono ?_)
      rintro e w1 ⟨rfl, k2⟩
      have hb1 := hb.keep k2 (by simp)
      have q0 := (hb1.cell 0).trans (show _ = some (Value.slice A n cap) from rfl)
      have q1 := (hb1.cell 1).trans (show _ = some (Value.int .i64 b0) from rfl)
      have q2 := (hb1.cell 2).trans (show _ = some (Value.int .i64 b1) from rfl)
      have q3 := (hb1.cell 3).trans (show _ = some (Value.int .i64 b2) from rfl)
      have q4 := (hb1.cell 4).trans (show _ = some (Value.int .i64 b3) from rfl)
      have q5 := (hb1.cell 5).trans (show _ = some (Value.int .i64 r) from rfl)
      have q6 := (hb1.cell 6).trans (show _ = some (Value.int .i64 wk) from rfl)
      have q7 := (hb1.cell 7).trans (show _ = some (Value.int .i64 lg) from rfl)
      go_wp2_with fail
      (with_reducible refine (h2 _).mono ?_)
      rintro e w2 ⟨rfl, k3⟩
      have hb2 := hb1.keep k3 (by simp)
      clear q0 q1 q2 q3 q4 q5 q6 q7
      go_wp2
      go_ret
      exact ⟨by rw [HE.out]; rfl, ((k1.trans k2).trans k3)⟩
  · have HE := Lib.hid (show mayE n m f b0 b1 b2 b3 r wk lg = 1 from if_neg (fun hM => c1 hM.1))
    rw [show decide (MayKs n m f) = false from decide_eq_false c1] at h1
    clear c1
    go_enter Try.func37, Try.ntmps37
    go_wp2_with fail
    (with_reducible refine h1.mono ?_)
    rintro e w1 ⟨rfl, k2⟩
    have hb1 := hb.keep k2 (by simp)
    go_wp2
    go_ret
    exact ⟨by rw [HE.out]; rfl, (k1.trans k2)⟩
end Go.Proofs.Ytfihaaciaobolaa
