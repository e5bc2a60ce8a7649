/-
  The document's twin of layout: May. No conditions but what is in memory.
-/
import Derived.Test.YtihfejbkojhkaaaR62
import Derived.BigQuiet
import Derived.Deep.QuietTactic
namespace Go.Flo
theorem Dr.keep {w w' : World} (h : Dr w w') : Keep [] w w' := by
  obtain ⟨n, rfl⟩ := h
  induction n with
  | zero => exact Keep.refl _ _
  | succ n ih => exact ih.trans (Keep.drew _)
theorem Keep.drewN (w : World) (n : Nat) : Keep [] w (w.drewN n) := (Dr.drewN w n).keep
end Go.Flo
namespace Go.Proofs.Ytihfejbkojhkaaa
open Go.RowKit Go.Flo Go.Bit
set_option maxRecDepth 100000

set_option maxHeartbeats 2000000 in
theorem rmay_any (w : World) (A : Option Addr) (n cap : Nat) (m : Nat → Nat) (f : Nat → Nat → Int) (b0 b1 b2 b3 r wk lg : Int) (hlg : -9223372036854775808 ≤ lg ∧ lg ≤ 9223372036854775807) (h : KRow w A n cap m f) :
    Calls Try.prog 13 #[.agg #[.slice A n cap, .int .i64 b0, .int .i64 b1, .int .i64 b2, .int .i64 b3, .int .i64 r, .int .i64 wk, .int .i64 lg]] w fun e w' => e = .returned (.int .i64 (mayE n m f b0 b1 b2 b3 r wk lg)) ∧ Keep [] w w' := by
  have hb := Blk.new w 25 #[.slice A n cap, .int .i64 b0, .int .i64 b1, .int .i64 b2, .int .i64 b3, .int .i64 r, .int .i64 wk, .int .i64 lg]
  have k1 : Keep [] w (w.alloc (.cells #[.slice A n cap, .int .i64 b0, .int .i64 b1, .int .i64 b2, .int .i64 b3, .int .i64 r, .int .i64 wk, .int .i64 lg] 25)) := Keep.alloc _ _
  have HI := Lib.hid (h.keep k1)
  have HB := Lib.hid hb
  clear h hb
  by_cases c1 : n = 0
  · rw [show mayE n m f b0 b1 b2 b3 r wk lg = 1 from if_neg (fun hM => by have := hM.1.1; omega)]
    subst c1
    go_enter Try.func13, Try.ntmps13
    go_wp2
    go_ret
    exact ⟨rfl, k1⟩
  by_cases c2 : n ≤ 16
  case neg =>
    rw [show mayE n m f b0 b1 b2 b3 r wk lg = 1 from if_neg (fun hM => by have := hM.1.2.1; omega)]
    go_enter Try.func13, Try.ntmps13
    go_wp2
    go_ret
    exact ⟨rfl, k1⟩
  go_enter Try.func13, Try.ntmps13
  go_wp2
  go_loopw [21] (fun x wr => MksRel (w.alloc (.cells #[.slice A n cap, .int .i64 b0, .int .i64 b1, .int .i64 b2, .int .i64 b3, .int .i64 r, .int .i64 wk, .int .i64 lg] 25)) n m f x wr) (fun x _ => n - (intOf x).toNat)
  case atStart => exact ⟨0, by omega, rfl, fun i hi => by omega, Keep.refl _ _⟩
  case round =>
  obtain ⟨j, hj, rfl, hok, hK⟩ := hrel
  have HO := Lib.hid hok
  clear hok
  by_cases hlt : j < n
  · obtain ⟨b, o, rfl, hb, hc⟩ := (HI.out.keep hK).cells (by omega)
    obtain ⟨A', c', cj, hI⟩ := hc j hlt
    clear hc
    have k2 : Keep [] wr (wr.alloc (.cells #[.slice A' (m j) c'] 60)) := Keep.alloc _ _
    have hk := rmayKind_any (wr.alloc (.cells #[.slice A' (m j) c'] 60)) A' (m j) c' (f j) (hI.keep k2)
    clear hI
    by_cases hM : MayK (m j) (f j)
    · rw [show decide (MayK (m j) (f j)) = true from decide_eq_true hM] at hk
      have HM := Lib.hid hM
      clear hM
      go_wp2_with fail
      (with_reducible refine hk.mono ?_)
      rintro e w3 ⟨rfl, k3⟩
      go_wp2
      go_roundw
      case rel => exact ⟨j + 1, by omega, by go_num, fun i hi => by
        rcases Nat.lt_or_ge i j with h | h
        · exact HO.out i h
        · rw [show i = j by omega]; exact HM.out, (hK.trans k2).trans k3⟩
      case measure => simp [intOf]; omega
    · rw [show decide (MayK (m j) (f j)) = false from decide_eq_false hM] at hk
      have HD := Lib.hid (show mayE n m f b0 b1 b2 b3 r wk lg = 1 from if_neg (fun hx => hM (hx.1.2.2 j hlt)))
      clear hM
      go_wp2_with fail
      (with_reducible refine hk.mono ?_)
      rintro e w3 ⟨rfl, k3⟩
      go_wp2
      go_ret
      exact ⟨by rw [HD.out]; rfl, ((k1.trans hK).trans k2).trans k3⟩
  obtain rfl : j = n := by omega
  have hM1 : MayKs j m f := ⟨by omega, c2, HO.out⟩
  have HM1 := Lib.hid hM1
  have hB := HB.out.keep hK (by simp)
  have HB1 := Lib.hid hB
  have q0 := (hB.cell 0).trans (show _ = some (Value.slice A j cap) from rfl)
  have q1 := (hB.cell 1).trans (show _ = some (Value.int .i64 b0) from rfl)
  have q2 := (hB.cell 2).trans (show _ = some (Value.int .i64 b1) from rfl)
  have q3 := (hB.cell 3).trans (show _ = some (Value.int .i64 b2) from rfl)
  have q4 := (hB.cell 4).trans (show _ = some (Value.int .i64 b3) from rfl)
  have q5 := (hB.cell 5).trans (show _ = some (Value.int .i64 r) from rfl)
  have q6 := (hB.cell 6).trans (show _ = some (Value.int .i64 wk) from rfl)
  have q7 := (hB.cell 7).trans (show _ = some (Value.int .i64 lg) from rfl)
  have i0 := fun W => idx40 W b0 b1 b2 b3
  have i1 := fun W => idx41 W b0 b1 b2 b3
  have i2 := fun W => idx42 W b0 b1 b2 b3
  have i3 := fun W => idx43 W b0 b1 b2 b3
  clear hM1 HO HI HB hB
  by_cases c00 : 0 ≤ b0
  case neg =>
    have HD := Lib.hid (show mayE j m f b0 b1 b2 b3 r wk lg = 1 from if_neg (fun hM => by obtain ⟨_, ⟨x0, x1, x2, x3, x4⟩, ⟨x5, x6, x7, x8⟩, ⟨x9, xa, xb⟩⟩ := hM; omega))
    go_wp2
    refine wp_loop_rounds 5 ?_
    rw [rounds_succ]; go_wp2
    go_ret
    exact ⟨by rw [HD.out]; rfl, k1.trans hK⟩
  by_cases c01 : b0 ≤ 512
  case neg =>
    have HD := Lib.hid (show mayE j m f b0 b1 b2 b3 r wk lg = 1 from if_neg (fun hM => by obtain ⟨_, ⟨x0, x1, x2, x3, x4⟩, ⟨x5, x6, x7, x8⟩, ⟨x9, xa, xb⟩⟩ := hM; omega))
    go_wp2
    refine wp_loop_rounds 5 ?_
    rw [rounds_succ]; go_wp2
    go_ret
    exact ⟨by rw [HD.out]; rfl, k1.trans hK⟩
  by_cases c10 : 0 ≤ b1
  case neg =>
    have HD := Lib.hid (show mayE j m f b0 b1 b2 b3 r wk lg = 1 from if_neg (fun hM => by obtain ⟨_, ⟨x0, x1, x2, x3, x4⟩, ⟨x5, x6, x7, x8⟩, ⟨x9, xa, xb⟩⟩ := hM; omega))
    go_wp2
    refine wp_loop_rounds 5 ?_
    rw [rounds_succ]; go_wp2
    rw [rounds_succ]; go_wp2
    go_ret
    exact ⟨by rw [HD.out]; rfl, k1.trans hK⟩
  by_cases c11 : b1 ≤ 512
  case neg =>
    have HD := Lib.hid (show mayE j m f b0 b1 b2 b3 r wk lg = 1 from if_neg (fun hM => by obtain ⟨_, ⟨x0, x1, x2, x3, x4⟩, ⟨x5, x6, x7, x8⟩, ⟨x9, xa, xb⟩⟩ := hM; omega))
    go_wp2
    refine wp_loop_rounds 5 ?_
    rw [rounds_succ]; go_wp2
    rw [rounds_succ]; go_wp2
    go_ret
    exact ⟨by rw [HD.out]; rfl, k1.trans hK⟩
  by_cases c20 : 0 ≤ b2
  case neg =>
    have HD := Lib.hid (show mayE j m f b0 b1 b2 b3 r wk lg = 1 from if_neg (fun hM => by obtain ⟨_, ⟨x0, x1, x2, x3, x4⟩, ⟨x5, x6, x7, x8⟩, ⟨x9, xa, xb⟩⟩ := hM; omega))
    go_wp2
    refine wp_loop_rounds 5 ?_
    rw [rounds_succ]; go_wp2
    rw [rounds_succ]; go_wp2
    rw [rounds_succ]; go_wp2
    go_ret
    exact ⟨by rw [HD.out]; rfl, k1.trans hK⟩
  by_cases c21 : b2 ≤ 512
  case neg =>
    have HD := Lib.hid (show mayE j m f b0 b1 b2 b3 r wk lg = 1 from if_neg (fun hM => by obtain ⟨_, ⟨x0, x1, x2, x3, x4⟩, ⟨x5, x6, x7, x8⟩, ⟨x9, xa, xb⟩⟩ := hM; omega))
    go_wp2
    refine wp_loop_rounds 5 ?_
    rw [rounds_succ]; go_wp2
    rw [rounds_succ]; go_wp2
    rw [rounds_succ]; go_wp2
    go_ret
    exact ⟨by rw [HD.out]; rfl, k1.trans hK⟩
  by_cases c30 : 0 ≤ b3
  case neg =>
    have HD := Lib.hid (show mayE j m f b0 b1 b2 b3 r wk lg = 1 from if_neg (fun hM => by obtain ⟨_, ⟨x0, x1, x2, x3, x4⟩, ⟨x5, x6, x7, x8⟩, ⟨x9, xa, xb⟩⟩ := hM; omega))
    go_wp2
    refine wp_loop_rounds 5 ?_
    rw [rounds_succ]; go_wp2
    rw [rounds_succ]; go_wp2
    rw [rounds_succ]; go_wp2
    rw [rounds_succ]; go_wp2
    go_ret
    exact ⟨by rw [HD.out]; rfl, k1.trans hK⟩
  by_cases c31 : b3 ≤ 512
  case neg =>
    have HD := Lib.hid (show mayE j m f b0 b1 b2 b3 r wk lg = 1 from if_neg (fun hM => by obtain ⟨_, ⟨x0, x1, x2, x3, x4⟩, ⟨x5, x6, x7, x8⟩, ⟨x9, xa, xb⟩⟩ := hM; omega))
    go_wp2
    refine wp_loop_rounds 5 ?_
    rw [rounds_succ]; go_wp2
    rw [rounds_succ]; go_wp2
    rw [rounds_succ]; go_wp2
    rw [rounds_succ]; go_wp2
    go_ret
    exact ⟨by rw [HD.out]; rfl, k1.trans hK⟩
  by_cases t0 : b0 + b1 + b2 + b3 = 0
  case pos =>
    have dt0 : ((b0 + b1 + b2 + b3) == 0) = true := by simp; omega
    have HD := Lib.hid (show mayE j m f b0 b1 b2 b3 r wk lg = 1 from if_neg (fun hM => by obtain ⟨_, ⟨x0, x1, x2, x3, x4⟩, ⟨x5, x6, x7, x8⟩, ⟨x9, xa, xb⟩⟩ := hM; omega))
    have hn := rneed16
    go_wp2
    refine wp_loop_rounds 5 ?_
    rw [rounds_succ]; go_wp2
    rw [rounds_succ]; go_wp2
    rw [rounds_succ]; go_wp2
    rw [rounds_succ]; go_wp2
    rw [rounds_succ]; go_wp2_with fail
    go_quiet ((go_at_call 41; refine quiet_same (hn _)))
    go_wp2
    go_ret
    exact ⟨by rw [HD.out]; rfl, (k1.trans hK).trans (Keep.drewN _ _)⟩
  by_cases t1 : r < 1
  case pos =>
    have dt0 : ((b0 + b1 + b2 + b3) == 0) = false := by simp; omega
    have dt1 : decide (r < 1) = true := by simp; omega
    have HD := Lib.hid (show mayE j m f b0 b1 b2 b3 r wk lg = 1 from if_neg (fun hM => by obtain ⟨_, ⟨x0, x1, x2, x3, x4⟩, ⟨x5, x6, x7, x8⟩, ⟨x9, xa, xb⟩⟩ := hM; omega))
    have hn := rneed16
    go_wp2
    refine wp_loop_rounds 5 ?_
    rw [rounds_succ]; go_wp2
    rw [rounds_succ]; go_wp2
    rw [rounds_succ]; go_wp2
    rw [rounds_succ]; go_wp2
    rw [rounds_succ]; go_wp2_with fail
    go_quiet ((go_at_call 41; refine quiet_same (hn _)))
    go_wp2
    go_ret
    exact ⟨by rw [HD.out]; rfl, (k1.trans hK).trans (Keep.drewN _ _)⟩
  by_cases t2 : 16 < r
  case pos =>
    have dt0 : ((b0 + b1 + b2 + b3) == 0) = false := by simp; omega
    have dt1 : decide (r < 1) = false := by simp; omega
    have dt2 : decide (16 < r) = true := by simp; omega
    have HD := Lib.hid (show mayE j m f b0 b1 b2 b3 r wk lg = 1 from if_neg (fun hM => by obtain ⟨_, ⟨x0, x1, x2, x3, x4⟩, ⟨x5, x6, x7, x8⟩, ⟨x9, xa, xb⟩⟩ := hM; omega))
    have hn := rneed16
    go_wp2
    refine wp_loop_rounds 5 ?_
    rw [rounds_succ]; go_wp2
    rw [rounds_succ]; go_wp2
    rw [rounds_succ]; go_wp2
    rw [rounds_succ]; go_wp2
    rw [rounds_succ]; go_wp2_with fail
    go_quiet ((go_at_call 41; refine quiet_same (hn _)))
    go_wp2
    go_ret
    exact ⟨by rw [HD.out]; rfl, (k1.trans hK).trans (Keep.drewN _ _)⟩
  by_cases t3 : wk < 0
  case pos =>
    have dt0 : ((b0 + b1 + b2 + b3) == 0) = false := by simp; omega
    have dt1 : decide (r < 1) = false := by simp; omega
    have dt2 : decide (16 < r) = false := by simp; omega
    have dt3 : decide (wk < 0) = true := by simp; omega
    have HD := Lib.hid (show mayE j m f b0 b1 b2 b3 r wk lg = 1 from if_neg (fun hM => by obtain ⟨_, ⟨x0, x1, x2, x3, x4⟩, ⟨x5, x6, x7, x8⟩, ⟨x9, xa, xb⟩⟩ := hM; omega))
    have hn := rneed16
    go_wp2
    refine wp_loop_rounds 5 ?_
    rw [rounds_succ]; go_wp2
    rw [rounds_succ]; go_wp2
    rw [rounds_succ]; go_wp2
    rw [rounds_succ]; go_wp2
    rw [rounds_succ]; go_wp2_with fail
    go_quiet ((go_at_call 41; refine quiet_same (hn _)))
    go_wp2
    go_ret
    exact ⟨by rw [HD.out]; rfl, (k1.trans hK).trans (Keep.drewN _ _)⟩
  by_cases t4 : 16 < wk
  case pos =>
    have dt0 : ((b0 + b1 + b2 + b3) == 0) = false := by simp; omega
    have dt1 : decide (r < 1) = false := by simp; omega
    have dt2 : decide (16 < r) = false := by simp; omega
    have dt3 : decide (wk < 0) = false := by simp; omega
    have dt4 : decide (16 < wk) = true := by simp; omega
    have HD := Lib.hid (show mayE j m f b0 b1 b2 b3 r wk lg = 1 from if_neg (fun hM => by obtain ⟨_, ⟨x0, x1, x2, x3, x4⟩, ⟨x5, x6, x7, x8⟩, ⟨x9, xa, xb⟩⟩ := hM; omega))
    have hn := rneed16
    go_wp2
    refine wp_loop_rounds 5 ?_
    rw [rounds_succ]; go_wp2
    rw [rounds_succ]; go_wp2
    rw [rounds_succ]; go_wp2
    rw [rounds_succ]; go_wp2
    rw [rounds_succ]; go_wp2_with fail
    go_quiet ((go_at_call 41; refine quiet_same (hn _)))
    go_wp2
    go_ret
    exact ⟨by rw [HD.out]; rfl, (k1.trans hK).trans (Keep.drewN _ _)⟩
  by_cases t5 : lg < 40
  case pos =>
    have dt0 : ((b0 + b1 + b2 + b3) == 0) = false := by simp; omega
    have dt1 : decide (r < 1) = false := by simp; omega
    have dt2 : decide (16 < r) = false := by simp; omega
    have dt3 : decide (wk < 0) = false := by simp; omega
    have dt4 : decide (16 < wk) = false := by simp; omega
    have dt5 : decide (lg < 40) = true := by simp; omega
    have HD := Lib.hid (show mayE j m f b0 b1 b2 b3 r wk lg = 1 from if_neg (fun hM => by obtain ⟨_, ⟨x0, x1, x2, x3, x4⟩, ⟨x5, x6, x7, x8⟩, ⟨x9, xa, xb⟩⟩ := hM; omega))
    have hn := rneed16
    go_wp2
    refine wp_loop_rounds 5 ?_
    rw [rounds_succ]; go_wp2
    rw [rounds_succ]; go_wp2
    rw [rounds_succ]; go_wp2
    rw [rounds_succ]; go_wp2
    rw [rounds_succ]; go_wp2_with fail
    go_quiet ((go_at_call 41; refine quiet_same (hn _)))
    go_wp2
    go_ret
    exact ⟨by rw [HD.out]; rfl, (k1.trans hK).trans (Keep.drewN _ _)⟩
  by_cases t6 : 4096 < lg
  case pos =>
    have dt0 : ((b0 + b1 + b2 + b3) == 0) = false := by simp; omega
    have dt1 : decide (r < 1) = false := by simp; omega
    have dt2 : decide (16 < r) = false := by simp; omega
    have dt3 : decide (wk < 0) = false := by simp; omega
    have dt4 : decide (16 < wk) = false := by simp; omega
    have dt5 : decide (lg < 40) = false := by simp; omega
    have dt6 : decide (4096 < lg) = true := by simp; omega
    have HD := Lib.hid (show mayE j m f b0 b1 b2 b3 r wk lg = 1 from if_neg (fun hM => by obtain ⟨_, ⟨x0, x1, x2, x3, x4⟩, ⟨x5, x6, x7, x8⟩, ⟨x9, xa, xb⟩⟩ := hM; omega))
    have hn := rneed16
    go_wp2
    refine wp_loop_rounds 5 ?_
    rw [rounds_succ]; go_wp2
    rw [rounds_succ]; go_wp2
    rw [rounds_succ]; go_wp2
    rw [rounds_succ]; go_wp2
    rw [rounds_succ]; go_wp2_with fail
    go_quiet ((go_at_call 41; refine quiet_same (hn _)))
    go_wp2
    go_ret
    exact ⟨by rw [HD.out]; rfl, (k1.trans hK).trans (Keep.drewN _ _)⟩
  have dt0 : ((b0 + b1 + b2 + b3) == 0) = false := by simp; omega
  have dt1 : decide (r < 1) = false := by simp; omega
  have dt2 : decide (16 < r) = false := by simp; omega
  have dt3 : decide (wk < 0) = false := by simp; omega
  have dt4 : decide (16 < wk) = false := by simp; omega
  have dt5 : decide (lg < 40) = false := by simp; omega
  have dt6 : decide (4096 < lg) = false := by simp; omega
  obtain ⟨k, rfl⟩ := Int.eq_ofNat_of_zero_le (show 0 ≤ lg by omega)
  by_cases t7 : (k : Int) % 8 = 0
  case neg =>
    have c4 : ((k : Int) % 8 == 0) = false := by simpa using t7
    have c5 : (IntKind.i64.wrap ((k : Int) % 8) == 0) = false := by rw [wrapi (by omega) (by omega)]; exact c4
    have HD := Lib.hid (show mayE j m f b0 b1 b2 b3 r wk k = 1 from if_neg (fun hM => by obtain ⟨_, ⟨x0, x1, x2, x3, x4⟩, ⟨x5, x6, x7, x8⟩, ⟨x9, xa, xb⟩⟩ := hM; omega))
    have hn := rneed16
    go_wp2
    refine wp_loop_rounds 5 ?_
    rw [rounds_succ]; go_wp2
    rw [rounds_succ]; go_wp2
    rw [rounds_succ]; go_wp2
    rw [rounds_succ]; go_wp2
    rw [rounds_succ]; go_wp2_with fail
    go_quiet ((go_at_call 41; refine quiet_same (hn _)))
    go_wp2
    go_ret
    exact ⟨by rw [HD.out]; rfl, (k1.trans hK).trans (Keep.drewN _ _)⟩
  have c4 : ((k : Int) % 8 == 0) = true := by simpa using t7
  have c5 : (IntKind.i64.wrap ((k : Int) % 8) == 0) = true := by rw [t7]; rfl
  have hM : MayC j m f b0 b1 b2 b3 r wk k := ⟨HM1.out, ⟨⟨c00, c01⟩, ⟨c10, c11⟩, ⟨c20, c21⟩, ⟨c30, c31⟩, by omega⟩, ⟨by omega, by omega, by omega, by omega⟩, ⟨by omega, by omega, t7⟩⟩
  have HD := Lib.hid (show mayE j m f b0 b1 b2 b3 r wk k = 0 from if_pos hM)
  obtain ⟨C, ok, rfl, rfl, rfl, rfl, rfl, rfl, rfl, hlk⟩ := hM.cf
  obtain rfl : k = C.lg := by omega
  have hL := fun W => rlay_any C ok A cap W
  have hw := ok.words_le
  clear hM hlk
  have hn := rneed16
  go_wp2
  refine wp_loop_rounds 5 ?_
  rw [rounds_succ]; go_wp2
  rw [rounds_succ]; go_wp2
  rw [rounds_succ]; go_wp2
  rw [rounds_succ]; go_wp2
  rw [rounds_succ]; go_wp2_with fail
  go_quiet ((go_at_call 41; refine quiet_same (hn _)))
  go_upto_region 19 with fail
  refine gen_world (R := fun W => Dr wr W) (Dr.drewN _ _) ?_
  intro w2 d2
  have hB2 := HB1.out.keep (own := []) d2.keep (by simp)
  clear q0 q1 q2 q3 q4 q5 q6 q7
  have q0 := (hB2.cell 0).trans (show _ = some (Value.slice A C.n cap) from rfl)
  have q1 := (hB2.cell 1).trans (show _ = some (Value.int .i64 C.b0) from rfl)
  have q2 := (hB2.cell 2).trans (show _ = some (Value.int .i64 C.b1) from rfl)
  have q3 := (hB2.cell 3).trans (show _ = some (Value.int .i64 C.b2) from rfl)
  have q4 := (hB2.cell 4).trans (show _ = some (Value.int .i64 C.b3) from rfl)
  have q5 := (hB2.cell 5).trans (show _ = some (Value.int .i64 C.r) from rfl)
  have q6 := (hB2.cell 6).trans (show _ = some (Value.int .i64 C.wk) from rfl)
  have q7 := (hB2.cell 7).trans (show _ = some (Value.int .i64 C.lg) from rfl)
  go_wp2_with fail
  (with_reducible refine (hL _).mono ?_)
  rintro e w5 ⟨g, rfl, hR, k5⟩
  have y19 := (Blk.cell hR 19).trans (show _ = some (Value.int .i64 C.words) from rfl)
  go_wp2
  go_ret
  exact ⟨by rw [HD.out]; rfl, ((k1.trans hK).trans d2.keep).trans k5⟩
end Go.Proofs.Ytihfejbkojhkaaa
