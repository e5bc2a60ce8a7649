/-
  LayoutPages' walk. No conditions but what came in.
-/
import Derived.Test.YtihfejbkojhkaaaR63
import Derived.Test.YtihfejbkojhkaaaLay5
import Derived.Test.YtihfejbkojhkaaaLawk
namespace Go.Proofs.Ytihfejbkojhkaaa
open Go.RowKit Go.Flo Go.Bit
set_option maxRecDepth 100000

theorem _root_.Go.Flo.MayC.light {n : Nat} {m : Nat → Nat} {f : Nat → Nat → Int} {b0 b1 b2 b3 r wk lg : Int} (h : MayC n m f b0 b1 b2 b3 r wk lg) : Light n m := ⟨by have := h.1.2.1; omega, fun i hi => by have := (h.1.2.2 i hi).2.1; omega⟩

section
variable (W : World) (a0 a1 : Int)
theorem idx20 : (Instr.index 55 (.agg #[.int .i64 a0, .int .i64 a1]) (.int .i64 0)).run Try.prog W = .ok (.int .i64 a0) W := by kernel_rfl
theorem idx21 : (Instr.index 55 (.agg #[.int .i64 a0, .int .i64 a1]) (.int .i64 1)).run Try.prog W = .ok (.int .i64 a1) W := by kernel_rfl
end
theorem classI {w : World} {g : Nat} {C : Cf} {m : Nat → Nat} {f : Nat → Nat → Int} (h : Lyt w g C m f) (x : Int) (b k : Nat) (hx : x = b) (hlt : b < C.all) (hk : C.cls b = k) : Calls Try.prog 27 #[.pointer (some ⟨g, 0, none⟩), .int .i64 x] w fun e w' => e = .returned (.int .i64 (k : Nat)) ∧ w = w' := by
  subst hx hk
  exact class_yes h b hlt
theorem sizeI {w : World} {g : Nat} {C : Cf} {m : Nat → Nat} {f : Nat → Nat → Int} (h : Lyt w g C m f) (x : Int) (b k : Nat) (hx : x = b) (hlt : b < C.all) (hk : C.cls b = k) : Calls Try.prog 28 #[.pointer (some ⟨g, 0, none⟩), .int .i64 x] w fun e w' => e = .returned (.int .i64 (2 * 2 ^ k : Nat)) ∧ w = w' := by
  subst hx hk
  exact size_yes h b hlt
def fstC (C : Cf) : Nat → Nat
  | 0 => 0
  | 1 => C.f1
  | 2 => C.f2
  | 3 => C.f3
  | _ => C.all
def PgRel (C : Cf) (w : World) (x y : Value) (wr : World) : Prop := ∃ k : Nat, k ≤ 4 ∧ y = .int .i64 k ∧ x = .int .i64 (fstC C k : Nat) ∧ Dr w wr

set_option maxHeartbeats 2000000 in
theorem walk_pages (A : Option Addr) (n cap : Nat) (m : Nat → Nat) (f : Nat → Nat → Int) (b0 b1 b2 b3 r wk lg : Int) (w : World) (hlg : -9223372036854775808 ≤ lg ∧ lg ≤ 9223372036854775807) (h : KRow w A n cap m f) :
    Calls Try.prog 7 #[.agg #[.slice A n cap, .int .i64 b0, .int .i64 b1, .int .i64 b2, .int .i64 b3, .int .i64 r, .int .i64 wk, .int .i64 lg]] w fun e w' => e = .returned (.bool true) ∧ Keep [] w w' := by
  have hb := Blk.new w 25 #[.slice A n cap, .int .i64 b0, .int .i64 b1, .int .i64 b2, .int .i64 b3, .int .i64 r, .int .i64 wk, .int .i64 lg]
  have k1 : Keep [] w (w.alloc (.cells #[.slice A n cap, .int .i64 b0, .int .i64 b1, .int .i64 b2, .int .i64 b3, .int .i64 r, .int .i64 wk, .int .i64 lg] 25)) := Keep.alloc _ _
  have h1 := light_any _ A n cap m f b0 b1 b2 b3 r wk lg (h.keep k1)
  have hA := awake6_any
  by_cases c1 : Light n m
  case neg =>
    rw [show decide (Light n m) = false from decide_eq_false c1] at h1
    go_enter Try.func7, Try.ntmps7
    go_wp2_with fail
    (with_reducible refine h1.mono ?_)
    rintro e w1 ⟨rfl, k2⟩
    go_wp2_with fail
    (with_reducible refine (hA _).mono ?_)
    rintro e w2 ⟨rfl, k3⟩
    go_wp2
    go_ret
    exact ⟨rfl, (k1.trans k2).trans k3⟩
  rw [show decide (Light n m) = true from decide_eq_true c1] at h1
  have h2 := fun W (hk : Keep [] w W) => rmay_any W A n cap m f b0 b1 b2 b3 r wk lg hlg (h.keep hk)
  by_cases hM : MayC n m f b0 b1 b2 b3 r wk lg
  case neg =>
    rw [show mayE n m f b0 b1 b2 b3 r wk lg = 1 from if_neg hM] at h2
    have H2 := Lib.hid h2
    clear h2
    go_enter Try.func7, Try.ntmps7
    go_wp2_with fail
    (with_reducible refine h1.mono ?_)
    rintro e w1 ⟨rfl, k2⟩
    have hb1 := hb.keep k2 (by simp)
    have q0 := (hb1.cell 0).trans (show _ = some (Value.slice A n cap) from rfl)
    have q1 := (hb1.cell 1).trans (show _ = some (Value.int .i64 b0) from rfl)
    have q2 := (hb1.cell 2).trans (show _ = some (Value.int .i64 b1) from rfl)
    have q3 := (hb1.cell 3).trans (show _ = some (Value.int .i64 b2) from rfl)
    have q4 := (hb1.cell 4).trans (show _ = some (Value.int .i64 b3) from rfl)
    have q5 := (hb1.cell 5).trans (show _ = some (Value.int .i64 r) from rfl)
    have q6 := (hb1.cell 6).trans (show _ = some (Value.int .i64 wk) from rfl)
    have q7 := (hb1.cell 7).trans (show _ = some (Value.int .i64 lg) from rfl)
    go_wp2_with fail
    (with_reducible refine (H2.out _ (k1.trans k2)).mono ?_)
    rintro e w2 ⟨rfl, k3⟩
    go_wp2_with fail
    (with_reducible refine (hA _).mono ?_)
    rintro e w3 ⟨rfl, k4⟩
    go_wp2
    go_ret
    exact ⟨rfl, ((k1.trans k2).trans k3).trans k4⟩
  rw [show mayE n m f b0 b1 b2 b3 r wk lg = 0 from if_pos hM] at h2
  have hks := hM.1
  obtain ⟨C, ok, rfl, rfl, rfl, rfl, rfl, rfl, rfl, rfl⟩ := hM.cf
  have h3 := fun W (hk : Keep [] w W) => new_yes W A cap C m f ok hks (h.keep hk)
  have H2 := Lib.hid h2
  have H3 := Lib.hid h3
  clear h2 h3 hM hks c1
  go_enter Try.func7, Try.ntmps7
  go_wp2_with fail
  (with_reducible refine h1.mono ?_)
  rintro e w1 ⟨rfl, k2⟩
  have hb1 := hb.keep k2 (by simp)
  have q0 := (hb1.cell 0).trans (show _ = some (Value.slice A C.n cap) from rfl)
  have q1 := (hb1.cell 1).trans (show _ = some (Value.int .i64 C.b0) from rfl)
  have q2 := (hb1.cell 2).trans (show _ = some (Value.int .i64 C.b1) from rfl)
  have q3 := (hb1.cell 3).trans (show _ = some (Value.int .i64 C.b2) from rfl)
  have q4 := (hb1.cell 4).trans (show _ = some (Value.int .i64 C.b3) from rfl)
  have q5 := (hb1.cell 5).trans (show _ = some (Value.int .i64 C.r) from rfl)
  have q6 := (hb1.cell 6).trans (show _ = some (Value.int .i64 C.wk) from rfl)
  have q7 := (hb1.cell 7).trans (show _ = some (Value.int .i64 C.lg) from rfl)
  clear h1
  go_wp2_with fail
  (with_reducible refine (H2.out _ (k1.trans k2)).mono ?_)
  rintro e w2 ⟨rfl, k3⟩
  have hb2 := hb1.keep k3 (by simp)
  clear q0 q1 q2 q3 q4 q5 q6 q7 H2 hb1
  have q0 := (hb2.cell 0).trans (show _ = some (Value.slice A C.n cap) from rfl)
  have q1 := (hb2.cell 1).trans (show _ = some (Value.int .i64 C.b0) from rfl)
  have q2 := (hb2.cell 2).trans (show _ = some (Value.int .i64 C.b1) from rfl)
  have q3 := (hb2.cell 3).trans (show _ = some (Value.int .i64 C.b2) from rfl)
  have q4 := (hb2.cell 4).trans (show _ = some (Value.int .i64 C.b3) from rfl)
  have q5 := (hb2.cell 5).trans (show _ = some (Value.int .i64 C.r) from rfl)
  have q6 := (hb2.cell 6).trans (show _ = some (Value.int .i64 C.wk) from rfl)
  have q7 := (hb2.cell 7).trans (show _ = some (Value.int .i64 C.lg) from rfl)
  go_wp2_with fail
  (with_reducible refine (H3.out _ ((k1.trans k2).trans k3)).mono ?_)
  rintro e w3 ⟨g, rfl, hL, k4⟩
  have hb3 := hb2.keep k4 (by simp)
  have HL := Lib.hid hL
  have HB := Lib.hid hb3
  have hkk : Keep [] w w3 := ((k1.trans k2).trans k3).trans k4
  have KK := Lib.hid hkk
  have hbl := blocks_l hL
  have hpg := pages_l hL ok
  obtain ⟨pg, hpq⟩ : ∃ pg : Nat, pg = (C.all + 7) / 8 := ⟨_, rfl⟩
  rw [← hpq] at hpg
  have hal := ok.all_le
  have hal1 : 1 ≤ C.all := ok.all
  have p1 : pg ≤ 1000 := by omega
  have p2 : 1 ≤ pg := by omega
  have p3 : (pg - 1) * 8 < C.all := by omega
  have p4 : C.all ≤ pg * 8 := by omega
  have d1 : decide ((C.all : Int) ≤ ((pg : Int) - 1) * 8) = false := by simp; omega
  have d2 : decide ((pg : Int) * 8 < (C.all : Int)) = false := by simp; omega
  have e1 : C.f1 = 0 + C.b0 := by unfold Cf.f1; omega
  have e2 : C.f2 = C.f1 + C.b1 := by unfold Cf.f1 Cf.f2; omega
  have e3 : C.f3 = C.f2 + C.b2 := by unfold Cf.f2 Cf.f3; omega
  have e4 : C.all = C.f3 + C.b3 := by unfold Cf.f3 Cf.all; omega
  have r0 := fun W (hh : Lyt W g C m f) => range_0 hh
  have r1 := fun W (hh : Lyt W g C m f) => range_1 hh
  have r2 := fun W (hh : Lyt W g C m f) => range_2 hh
  have r3 := fun W (hh : Lyt W g C m f) => range_3 hh
  have R0 := Lib.hid r0
  have R1 := Lib.hid r1
  have R2 := Lib.hid r2
  have R3 := Lib.hid r3
  have hm := C.mono
  have EE := Lib.hid (And.intro e1 (And.intro e2 (And.intro e3 e4)))
  have OK := Lib.hid ok
  clear r0 r1 r2 r3 q0 q1 q2 q3 q4 q5 q6 q7 H3 hb2 hb3 hL hb h k1 k2 k3 k4 hkk hpq ok e1 e2 e3 e4
  go_wp2_with fail
  (with_reducible refine hbl.mono ?_)
  rintro e w' ⟨rfl, rfl⟩
  go_wp2_with fail
  (with_reducible refine hpg.mono ?_)
  rintro e w' ⟨rfl, rfl⟩
  go_wp2_with fail
  (with_reducible refine hpg.mono ?_)
  rintro e w' ⟨rfl, rfl⟩
  clear hbl hpg
  go_wp2
  go_loopw [6, 47] (fun x y wr => PgRel C w3 x y wr) (fun _ y _ => 4 - (intOf y).toNat)
  case atStart => exact ⟨0, by omega, rfl, rfl, Dr.refl _⟩
  case round =>
  obtain ⟨k, hk4, rfl, rfl, hD⟩ := hrel
  have hLr := HL.out.keep hD.keep
  have hBr := HB.out.keep hD.keep (by simp)
  match k, hk4 with
  | 0, _ =>
    rw [show fstC C 0 = 0 from rfl]
    have ee := EE.out
    have q := (hBr.cell 1).trans (show _ = some (Value.int .i64 C.b0) from rfl)
    have e := (show (((C.f1 : Int)) == (C.b0 : Int)) = true by simp; omega)
    have e' := (show (((C.f1 : Int) - (0 : Int)) == (C.b0 : Int)) = true by simp; omega)
    have hr := R0.out _ hLr
    have j0 := fun W => idx20 W (0 : Int) ((C.f1 : Int) - 1)
    have j1 := fun W => idx21 W (0 : Int) ((C.f1 : Int) - 1)
    by_cases hz : C.b0 = 0
    · have hba : C.f1 ≤ 0 := by omega
      have dab : decide ((0 : Int) < (C.f1 : Int)) = false := by simp; omega
      have HZ := Lib.hid hz
      clear hz ee
      go_wp2_with fail
      (with_reducible refine hr.mono ?_)
      rintro e wq ⟨rfl, d⟩
      have hLq := hLr.keep d.keep
      have q' := ((hBr.keep d.keep (by simp)).cell 1).trans (show _ = some (Value.int .i64 C.b0) from rfl)
      clear q
      go_wp2
      refine wp_loop_rounds 3 ?_
      rw [rounds_succ]; go_wp2
      rw [rounds_succ]; go_wp2
      rw [rounds_succ]; go_wp2
      go_roundw
      case rel => exact ⟨1, by omega, rfl, rfl, hD.trans d⟩
      case measure => simp [intOf]
    · have hba : 0 < C.f1 := by omega
      have dab : decide ((0 : Int) < (C.f1 : Int)) = true := by simp; omega
      have cA := fun W (hh : Lyt W g C m f) => classI hh (0 : Int) 0 0 (by omega) (by omega) (by unfold Cf.cls; repeat (first | (rw [if_pos (by omega)]) | (rw [if_neg (by omega)])))
      have CAH := Lib.hid cA
      have zA := fun W (hh : Lyt W g C m f) => sizeI hh (0 : Int) 0 0 (by omega) (by omega) (by unfold Cf.cls; repeat (first | (rw [if_pos (by omega)]) | (rw [if_neg (by omega)])))
      have ZAH := Lib.hid zA
      have cB := fun W (hh : Lyt W g C m f) => classI hh ((C.f1 : Int) - 1) (C.f1 - 1) 0 (by omega) (by omega) (by unfold Cf.cls; repeat (first | (rw [if_pos (by omega)]) | (rw [if_neg (by omega)])))
      have CBH := Lib.hid cB
      have zB := fun W (hh : Lyt W g C m f) => sizeI hh ((C.f1 : Int) - 1) (C.f1 - 1) 0 (by omega) (by omega) (by unfold Cf.cls; repeat (first | (rw [if_pos (by omega)]) | (rw [if_neg (by omega)])))
      have ZBH := Lib.hid zB
      have HZ := Lib.hid hz
      clear cA zA cB zB hz ee
      go_wp2_with fail
      (with_reducible refine hr.mono ?_)
      rintro e wq ⟨rfl, d⟩
      have hLq := hLr.keep d.keep
      have q' := ((hBr.keep d.keep (by simp)).cell 1).trans (show _ = some (Value.int .i64 C.b0) from rfl)
      clear q
      go_wp2
      refine wp_loop_rounds 3 ?_
      rw [rounds_succ]; go_wp2_with fail
      (with_reducible refine (CAH.out _ hLq).mono ?_)
      rintro e w' ⟨rfl, rfl⟩
      go_wp2_with fail
      (with_reducible refine (ZAH.out _ hLq).mono ?_)
      rintro e w' ⟨rfl, rfl⟩
      go_wp2
      rw [rounds_succ]; go_wp2_with fail
      (with_reducible refine (CBH.out _ hLq).mono ?_)
      rintro e w' ⟨rfl, rfl⟩
      go_wp2_with fail
      (with_reducible refine (ZBH.out _ hLq).mono ?_)
      rintro e w' ⟨rfl, rfl⟩
      go_wp2
      rw [rounds_succ]; go_wp2
      go_roundw
      case rel => exact ⟨1, by omega, rfl, rfl, hD.trans d⟩
      case measure => simp [intOf]
  | 1, _ =>
    rw [show fstC C 1 = C.f1 from rfl]
    have ee := EE.out
    have q := (hBr.cell 2).trans (show _ = some (Value.int .i64 C.b1) from rfl)
    have e' := (show (((C.f2 : Int) - (C.f1 : Int)) == (C.b1 : Int)) = true by simp; omega)
    have hr := R1.out _ hLr
    have j0 := fun W => idx20 W (C.f1 : Int) ((C.f2 : Int) - 1)
    have j1 := fun W => idx21 W (C.f1 : Int) ((C.f2 : Int) - 1)
    by_cases hz : C.b1 = 0
    · have hba : C.f2 ≤ C.f1 := by omega
      have dab : decide ((C.f1 : Int) < (C.f2 : Int)) = false := by simp; omega
      have HZ := Lib.hid hz
      clear hz ee
      go_wp2_with fail
      (with_reducible refine hr.mono ?_)
      rintro e wq ⟨rfl, d⟩
      have hLq := hLr.keep d.keep
      have q' := ((hBr.keep d.keep (by simp)).cell 2).trans (show _ = some (Value.int .i64 C.b1) from rfl)
      clear q
      go_wp2
      refine wp_loop_rounds 3 ?_
      rw [rounds_succ]; go_wp2
      rw [rounds_succ]; go_wp2
      rw [rounds_succ]; go_wp2
      go_roundw
      case rel => exact ⟨2, by omega, rfl, rfl, hD.trans d⟩
      case measure => simp [intOf]
    · have hba : C.f1 < C.f2 := by omega
      have dab : decide ((C.f1 : Int) < (C.f2 : Int)) = true := by simp; omega
      have cA := fun W (hh : Lyt W g C m f) => classI hh (C.f1 : Int) C.f1 1 (by omega) (by omega) (by unfold Cf.cls; repeat (first | (rw [if_pos (by omega)]) | (rw [if_neg (by omega)])))
      have CAH := Lib.hid cA
      have zA := fun W (hh : Lyt W g C m f) => sizeI hh (C.f1 : Int) C.f1 1 (by omega) (by omega) (by unfold Cf.cls; repeat (first | (rw [if_pos (by omega)]) | (rw [if_neg (by omega)])))
      have ZAH := Lib.hid zA
      have cB := fun W (hh : Lyt W g C m f) => classI hh ((C.f2 : Int) - 1) (C.f2 - 1) 1 (by omega) (by omega) (by unfold Cf.cls; repeat (first | (rw [if_pos (by omega)]) | (rw [if_neg (by omega)])))
      have CBH := Lib.hid cB
      have zB := fun W (hh : Lyt W g C m f) => sizeI hh ((C.f2 : Int) - 1) (C.f2 - 1) 1 (by omega) (by omega) (by unfold Cf.cls; repeat (first | (rw [if_pos (by omega)]) | (rw [if_neg (by omega)])))
      have ZBH := Lib.hid zB
      have HZ := Lib.hid hz
      clear cA zA cB zB hz ee
      go_wp2_with fail
      (with_reducible refine hr.mono ?_)
      rintro e wq ⟨rfl, d⟩
      have hLq := hLr.keep d.keep
      have q' := ((hBr.keep d.keep (by simp)).cell 2).trans (show _ = some (Value.int .i64 C.b1) from rfl)
      clear q
      go_wp2
      refine wp_loop_rounds 3 ?_
      rw [rounds_succ]; go_wp2_with fail
      (with_reducible refine (CAH.out _ hLq).mono ?_)
      rintro e w' ⟨rfl, rfl⟩
      go_wp2_with fail
      (with_reducible refine (ZAH.out _ hLq).mono ?_)
      rintro e w' ⟨rfl, rfl⟩
      go_wp2
      rw [rounds_succ]; go_wp2_with fail
      (with_reducible refine (CBH.out _ hLq).mono ?_)
      rintro e w' ⟨rfl, rfl⟩
      go_wp2_with fail
      (with_reducible refine (ZBH.out _ hLq).mono ?_)
      rintro e w' ⟨rfl, rfl⟩
      go_wp2
      rw [rounds_succ]; go_wp2
      go_roundw
      case rel => exact ⟨2, by omega, rfl, rfl, hD.trans d⟩
      case measure => simp [intOf]
  | 2, _ =>
    rw [show fstC C 2 = C.f2 from rfl]
    have ee := EE.out
    have q := (hBr.cell 3).trans (show _ = some (Value.int .i64 C.b2) from rfl)
    have e' := (show (((C.f3 : Int) - (C.f2 : Int)) == (C.b2 : Int)) = true by simp; omega)
    have hr := R2.out _ hLr
    have j0 := fun W => idx20 W (C.f2 : Int) ((C.f3 : Int) - 1)
    have j1 := fun W => idx21 W (C.f2 : Int) ((C.f3 : Int) - 1)
    by_cases hz : C.b2 = 0
    · have hba : C.f3 ≤ C.f2 := by omega
      have dab : decide ((C.f2 : Int) < (C.f3 : Int)) = false := by simp; omega
      have HZ := Lib.hid hz
      clear hz ee
      go_wp2_with fail
      (with_reducible refine hr.mono ?_)
      rintro e wq ⟨rfl, d⟩
      have hLq := hLr.keep d.keep
      have q' := ((hBr.keep d.keep (by simp)).cell 3).trans (show _ = some (Value.int .i64 C.b2) from rfl)
      clear q
      go_wp2
      refine wp_loop_rounds 3 ?_
      rw [rounds_succ]; go_wp2
      rw [rounds_succ]; go_wp2
      rw [rounds_succ]; go_wp2
      go_roundw
      case rel => exact ⟨3, by omega, rfl, rfl, hD.trans d⟩
      case measure => simp [intOf]
    · have hba : C.f2 < C.f3 := by omega
      have dab : decide ((C.f2 : Int) < (C.f3 : Int)) = true := by simp; omega
      have cA := fun W (hh : Lyt W g C m f) => classI hh (C.f2 : Int) C.f2 2 (by omega) (by omega) (by unfold Cf.cls; repeat (first | (rw [if_pos (by omega)]) | (rw [if_neg (by omega)])))
      have CAH := Lib.hid cA
      have zA := fun W (hh : Lyt W g C m f) => sizeI hh (C.f2 : Int) C.f2 2 (by omega) (by omega) (by unfold Cf.cls; repeat (first | (rw [if_pos (by omega)]) | (rw [if_neg (by omega)])))
      have ZAH := Lib.hid zA
      have cB := fun W (hh : Lyt W g C m f) => classI hh ((C.f3 : Int) - 1) (C.f3 - 1) 2 (by omega) (by omega) (by unfold Cf.cls; repeat (first | (rw [if_pos (by omega)]) | (rw [if_neg (by omega)])))
      have CBH := Lib.hid cB
      have zB := fun W (hh : Lyt W g C m f) => sizeI hh ((C.f3 : Int) - 1) (C.f3 - 1) 2 (by omega) (by omega) (by unfold Cf.cls; repeat (first | (rw [if_pos (by omega)]) | (rw [if_neg (by omega)])))
      have ZBH := Lib.hid zB
      have HZ := Lib.hid hz
      clear cA zA cB zB hz ee
      go_wp2_with fail
      (with_reducible refine hr.mono ?_)
      rintro e wq ⟨rfl, d⟩
      have hLq := hLr.keep d.keep
      have q' := ((hBr.keep d.keep (by simp)).cell 3).trans (show _ = some (Value.int .i64 C.b2) from rfl)
      clear q
      go_wp2
      refine wp_loop_rounds 3 ?_
      rw [rounds_succ]; go_wp2_with fail
      (with_reducible refine (CAH.out _ hLq).mono ?_)
      rintro e w' ⟨rfl, rfl⟩
      go_wp2_with fail
      (with_reducible refine (ZAH.out _ hLq).mono ?_)
      rintro e w' ⟨rfl, rfl⟩
      go_wp2
      rw [rounds_succ]; go_wp2_with fail
      (with_reducible refine (CBH.out _ hLq).mono ?_)
      rintro e w' ⟨rfl, rfl⟩
      go_wp2_with fail
      (with_reducible refine (ZBH.out _ hLq).mono ?_)
      rintro e w' ⟨rfl, rfl⟩
      go_wp2
      rw [rounds_succ]; go_wp2
      go_roundw
      case rel => exact ⟨3, by omega, rfl, rfl, hD.trans d⟩
      case measure => simp [intOf]
  | 3, _ =>
    rw [show fstC C 3 = C.f3 from rfl]
    have ee := EE.out
    have q := (hBr.cell 4).trans (show _ = some (Value.int .i64 C.b3) from rfl)
    have e' := (show (((C.all : Int) - (C.f3 : Int)) == (C.b3 : Int)) = true by simp; omega)
    have hr := R3.out _ hLr
    have j0 := fun W => idx20 W (C.f3 : Int) ((C.all : Int) - 1)
    have j1 := fun W => idx21 W (C.f3 : Int) ((C.all : Int) - 1)
    by_cases hz : C.b3 = 0
    · have hba : C.all ≤ C.f3 := by omega
      have dab : decide ((C.f3 : Int) < (C.all : Int)) = false := by simp; omega
      have HZ := Lib.hid hz
      clear hz ee
      go_wp2_with fail
      (with_reducible refine hr.mono ?_)
      rintro e wq ⟨rfl, d⟩
      have hLq := hLr.keep d.keep
      have q' := ((hBr.keep d.keep (by simp)).cell 4).trans (show _ = some (Value.int .i64 C.b3) from rfl)
      clear q
      go_wp2
      refine wp_loop_rounds 3 ?_
      rw [rounds_succ]; go_wp2
      rw [rounds_succ]; go_wp2
      rw [rounds_succ]; go_wp2
      go_roundw
      case rel => exact ⟨4, by omega, rfl, rfl, hD.trans d⟩
      case measure => simp [intOf]
    · have hba : C.f3 < C.all := by omega
      have dab : decide ((C.f3 : Int) < (C.all : Int)) = true := by simp; omega
      have cA := fun W (hh : Lyt W g C m f) => classI hh (C.f3 : Int) C.f3 3 (by omega) (by omega) (by unfold Cf.cls; repeat (first | (rw [if_pos (by omega)]) | (rw [if_neg (by omega)])))
      have CAH := Lib.hid cA
      have zA := fun W (hh : Lyt W g C m f) => sizeI hh (C.f3 : Int) C.f3 3 (by omega) (by omega) (by unfold Cf.cls; repeat (first | (rw [if_pos (by omega)]) | (rw [if_neg (by omega)])))
      have ZAH := Lib.hid zA
      have cB := fun W (hh : Lyt W g C m f) => classI hh ((C.all : Int) - 1) (C.all - 1) 3 (by omega) (by omega) (by unfold Cf.cls; repeat (first | (rw [if_pos (by omega)]) | (rw [if_neg (by omega)])))
      have CBH := Lib.hid cB
      have zB := fun W (hh : Lyt W g C m f) => sizeI hh ((C.all : Int) - 1) (C.all - 1) 3 (by omega) (by omega) (by unfold Cf.cls; repeat (first | (rw [if_pos (by omega)]) | (rw [if_neg (by omega)])))
      have ZBH := Lib.hid zB
      have HZ := Lib.hid hz
      clear cA zA cB zB hz ee
      go_wp2_with fail
      (with_reducible refine hr.mono ?_)
      rintro e wq ⟨rfl, d⟩
      have hLq := hLr.keep d.keep
      have q' := ((hBr.keep d.keep (by simp)).cell 4).trans (show _ = some (Value.int .i64 C.b3) from rfl)
      clear q
      go_wp2
      refine wp_loop_rounds 3 ?_
      rw [rounds_succ]; go_wp2_with fail
      (with_reducible refine (CAH.out _ hLq).mono ?_)
      rintro e w' ⟨rfl, rfl⟩
      go_wp2_with fail
      (with_reducible refine (ZAH.out _ hLq).mono ?_)
      rintro e w' ⟨rfl, rfl⟩
      go_wp2
      rw [rounds_succ]; go_wp2_with fail
      (with_reducible refine (CBH.out _ hLq).mono ?_)
      rintro e w' ⟨rfl, rfl⟩
      go_wp2_with fail
      (with_reducible refine (ZBH.out _ hLq).mono ?_)
      rintro e w' ⟨rfl, rfl⟩
      go_wp2
      rw [rounds_succ]; go_wp2
      go_roundw
      case rel => exact ⟨4, by omega, rfl, rfl, hD.trans d⟩
      case measure => simp [intOf]
  | 4, _ =>
    rw [show fstC C 4 = C.all from rfl]
    go_wp2_with fail
    (with_reducible refine (hA _).mono ?_)
    rintro e w' ⟨rfl, k5⟩
    go_wp2
    go_ret
    exact ⟨rfl, (KK.out.trans hD.keep).trans k5⟩
end Go.Proofs.Ytihfejbkojhkaaa
