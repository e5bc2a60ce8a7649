/-
  LayoutMay's walk. No conditions but what came in.
-/
import Derived.Test.YtihfejbkojhkaaaR64
import Derived.Test.YtihfejbkojhkaaaR65
import Derived.Test.YtihfejbkojhkaaaWPg
namespace Go.Proofs.Ytihfejbkojhkaaa
open Go.RowKit Go.Flo Go.Bit
set_option maxRecDepth 100000

section
variable {w : World} {g : Nat} {C : Cf} {m : Nat → Nat} {f : Nat → Nat → Int} (h : Lyt w g C m f)
include h
theorem rootI (ok : C.Ok) (b : Nat) (hlt : b < C.r) : Calls Try.prog 23 #[.pointer (some ⟨g, 0, none⟩), .int .i64 b] w fun e w' => e = .returned (.int .i64 ((C.roots : Int) + b)) ∧ w = w' :=
  (root_yes h ok b hlt).mono fun _ _ ⟨a, b⟩ => ⟨a.trans (ret_i64 (by omega)), b⟩
theorem weakI (ok : C.Ok) (b : Nat) (hlt : b < C.wk) : Calls Try.prog 24 #[.pointer (some ⟨g, 0, none⟩), .int .i64 b] w fun e w' => e = .returned (.int .i64 ((C.roots : Int) + C.r + b)) ∧ Dr w w' :=
  (weak_yes h ok b hlt).mono fun _ _ ⟨a, b⟩ => ⟨a.trans (ret_i64 (by omega)), b⟩
theorem bitsI (ok : C.Ok) (b : Nat) (hlt : b < C.all) : Calls Try.prog 31 #[.pointer (some ⟨g, 0, none⟩), .int .i64 b] w fun e w' => e = .returned (.int .i64 ((C.bits : Int) + (b : Int) / 64)) ∧ w = w' :=
  (bits_yes h ok b hlt).mono fun _ _ ⟨a, b⟩ => ⟨a.trans (ret_i64 (by omega)), b⟩
end
theorem neq_self (x : Nat) : (((x : Int)) != (x : Int)) = false := by simp
/-- The blocks that are asked for. -/
def elt4 (a0 a1 a2 a3 : Int) : Nat → Int
  | 0 => a0
  | 1 => a1
  | 2 => a2
  | _ => a3
theorem idx4 (W : World) (a0 a1 a2 a3 : Int) (j : Nat) (hj : j < 4) : (Instr.index 23 (.agg #[.int .i64 a0, .int .i64 a1, .int .i64 a2, .int .i64 a3]) (.int .i64 j)).run Try.prog W = .ok (.int .i64 (elt4 a0 a1 a2 a3 j)) W := by
  match j, hj with
  | 0, _ => exact idx40 W a0 a1 a2 a3
  | 1, _ => exact idx41 W a0 a1 a2 a3
  | 2, _ => exact idx42 W a0 a1 a2 a3
  | 3, _ => exact idx43 W a0 a1 a2 a3
def RtRel (C : Cf) (w : World) (x : Value) (wr : World) : Prop := ∃ k : Int, -1 ≤ k ∧ k ≤ 17 ∧ x = .int .i64 k ∧ Dr w wr
def BkRel (w : World) (x : Value) (wr : World) : Prop := ∃ j : Nat, j ≤ 4 ∧ x = .int .i64 j ∧ Dr w wr

set_option maxHeartbeats 4000000 in
theorem walk_may (A : Option Addr) (n cap : Nat) (m : Nat → Nat) (f : Nat → Nat → Int) (b0 b1 b2 b3 r wk lg : Int) (b cl : Int) (w : World) (hlg : -9223372036854775808 ≤ lg ∧ lg ≤ 9223372036854775807) (h : KRow w A n cap m f) :
    Calls Try.prog 3 #[.agg #[.slice A n cap, .int .i64 b0, .int .i64 b1, .int .i64 b2, .int .i64 b3, .int .i64 r, .int .i64 wk, .int .i64 lg], .int .i64 b, .int .i64 cl] w fun e w' => e = .returned (.bool true) ∧ Keep [] w w' := by
  have hb := Blk.new w 25 #[.slice A n cap, .int .i64 b0, .int .i64 b1, .int .i64 b2, .int .i64 b3, .int .i64 r, .int .i64 wk, .int .i64 lg]
  have k1 : Keep [] w (w.alloc (.cells #[.slice A n cap, .int .i64 b0, .int .i64 b1, .int .i64 b2, .int .i64 b3, .int .i64 r, .int .i64 wk, .int .i64 lg] 25)) := Keep.alloc _ _
  have h1 := light_any _ A n cap m f b0 b1 b2 b3 r wk lg (h.keep k1)
  have hA := awake6_any
  by_cases c1 : Light n m
  case neg =>
    rw [show decide (Light n m) = false from decide_eq_false c1] at h1
    go_enter Try.func3, Try.ntmps3
    go_wp2_with fail
    (with_reducible refine h1.mono ?_)
    rintro e w1 ⟨rfl, k2⟩
    go_wp2_with fail
    (with_reducible refine (hA _).mono ?_)
    rintro e w2 ⟨rfl, k3⟩
    go_wp2
    go_ret
    exact ⟨rfl, (k1.trans k2).trans k3⟩
  rw [show decide (Light n m) = true from decide_eq_true c1] at h1
  have h2 := fun W (hk : Keep [] w W) => rmay_any W A n cap m f b0 b1 b2 b3 r wk lg hlg (h.keep hk)
  have h4 := fun W (hk : Keep [] w W) => may_any W A n cap m f b0 b1 b2 b3 r wk lg hlg (h.keep hk)
  by_cases hM : MayC n m f b0 b1 b2 b3 r wk lg
  case neg =>
    rw [show mayE n m f b0 b1 b2 b3 r wk lg = 1 from if_neg hM] at h2 h4
    have h3 := fun W (hk : Keep [] w W) => new_no W A n cap m f b0 b1 b2 b3 r wk lg hlg (h.keep hk) hM
    have H2 := Lib.hid h2
    have H3 := Lib.hid h3
    have H4 := Lib.hid h4
    clear h2 h3 h4
    go_enter Try.func3, Try.ntmps3
    go_wp2_with fail
    (with_reducible refine h1.mono ?_)
    rintro e w1 ⟨rfl, k2⟩
    have hb1 := hb.keep k2 (by simp)
    have kk1 := k1.trans k2
    clear h1 k1 k2
    have q0 := (hb1.cell 0).trans (show _ = some (Value.slice A n cap) from rfl)
    have q1 := (hb1.cell 1).trans (show _ = some (Value.int .i64 b0) from rfl)
    have q2 := (hb1.cell 2).trans (show _ = some (Value.int .i64 b1) from rfl)
    have q3 := (hb1.cell 3).trans (show _ = some (Value.int .i64 b2) from rfl)
    have q4 := (hb1.cell 4).trans (show _ = some (Value.int .i64 b3) from rfl)
    have q5 := (hb1.cell 5).trans (show _ = some (Value.int .i64 r) from rfl)
    have q6 := (hb1.cell 6).trans (show _ = some (Value.int .i64 wk) from rfl)
    have q7 := (hb1.cell 7).trans (show _ = some (Value.int .i64 lg) from rfl)
    go_wp2_with fail
    (with_reducible refine (H3.out _ kk1).mono ?_)
    rintro e w2 ⟨rfl, k3⟩
    have hb2 := hb1.keep k3 (by simp)
    have kk2 := kk1.trans k3
    clear q0 q1 q2 q3 q4 q5 q6 q7 hb1 kk1 k3
    have q0 := (hb2.cell 0).trans (show _ = some (Value.slice A n cap) from rfl)
    have q1 := (hb2.cell 1).trans (show _ = some (Value.int .i64 b0) from rfl)
    have q2 := (hb2.cell 2).trans (show _ = some (Value.int .i64 b1) from rfl)
    have q3 := (hb2.cell 3).trans (show _ = some (Value.int .i64 b2) from rfl)
    have q4 := (hb2.cell 4).trans (show _ = some (Value.int .i64 b3) from rfl)
    have q5 := (hb2.cell 5).trans (show _ = some (Value.int .i64 r) from rfl)
    have q6 := (hb2.cell 6).trans (show _ = some (Value.int .i64 wk) from rfl)
    have q7 := (hb2.cell 7).trans (show _ = some (Value.int .i64 lg) from rfl)
    go_wp2_with fail
    (with_reducible refine (H2.out _ kk2).mono ?_)
    rintro e w3 ⟨rfl, k3⟩
    have hb3 := hb2.keep k3 (by simp)
    have kk3 := kk2.trans k3
    clear q0 q1 q2 q3 q4 q5 q6 q7 hb2 kk2 k3
    have q0 := (hb3.cell 0).trans (show _ = some (Value.slice A n cap) from rfl)
    have q1 := (hb3.cell 1).trans (show _ = some (Value.int .i64 b0) from rfl)
    have q2 := (hb3.cell 2).trans (show _ = some (Value.int .i64 b1) from rfl)
    have q3 := (hb3.cell 3).trans (show _ = some (Value.int .i64 b2) from rfl)
    have q4 := (hb3.cell 4).trans (show _ = some (Value.int .i64 b3) from rfl)
    have q5 := (hb3.cell 5).trans (show _ = some (Value.int .i64 r) from rfl)
    have q6 := (hb3.cell 6).trans (show _ = some (Value.int .i64 wk) from rfl)
    have q7 := (hb3.cell 7).trans (show _ = some (Value.int .i64 lg) from rfl)
    go_wp2_with fail
    (with_reducible refine (H4.out _ kk3).mono ?_)
    rintro e w4 ⟨rfl, k3⟩
    go_wp2_with fail
    (with_reducible refine (hA _).mono ?_)
    rintro e w5 ⟨rfl, k4⟩
    go_wp2
    go_ret
    exact ⟨rfl, (kk3.trans k3).trans k4⟩
  rw [show mayE n m f b0 b1 b2 b3 r wk lg = 0 from if_pos hM] at h2 h4
  have hks := hM.1
  obtain ⟨C, ok, rfl, rfl, rfl, rfl, rfl, rfl, rfl, rfl⟩ := hM.cf
  have h3 := fun W (hk : Keep [] w W) => new_yes W A cap C m f ok hks (h.keep hk)
  have H2 := Lib.hid h2
  have H3 := Lib.hid h3
  have H4 := Lib.hid h4
  have hmm : ∀ i, i < C.n → m i ≤ 1000 := fun i hi => by have := (hks.2.2 i hi).2.1; omega
  have HMM := Lib.hid hmm
  have HK0 := Lib.hid h
  clear h2 h3 h4 hM hks c1 hmm
  go_enter Try.func3, Try.ntmps3
  go_wp2_with fail
  (with_reducible refine h1.mono ?_)
  rintro e w1 ⟨rfl, k2⟩
  have hb1 := hb.keep k2 (by simp)
  have kk1 := k1.trans k2
  clear h1 k1 k2 hb
  have q0 := (hb1.cell 0).trans (show _ = some (Value.slice A C.n cap) from rfl)
  have q1 := (hb1.cell 1).trans (show _ = some (Value.int .i64 C.b0) from rfl)
  have q2 := (hb1.cell 2).trans (show _ = some (Value.int .i64 C.b1) from rfl)
  have q3 := (hb1.cell 3).trans (show _ = some (Value.int .i64 C.b2) from rfl)
  have q4 := (hb1.cell 4).trans (show _ = some (Value.int .i64 C.b3) from rfl)
  have q5 := (hb1.cell 5).trans (show _ = some (Value.int .i64 C.r) from rfl)
  have q6 := (hb1.cell 6).trans (show _ = some (Value.int .i64 C.wk) from rfl)
  have q7 := (hb1.cell 7).trans (show _ = some (Value.int .i64 C.lg) from rfl)
  go_wp2_with fail
  (with_reducible refine (H3.out _ kk1).mono ?_)
  rintro e w2 ⟨g, rfl, hL, k3⟩
  have hb2 := hb1.keep k3 (by simp)
  have kk2 := kk1.trans k3
  clear q0 q1 q2 q3 q4 q5 q6 q7 hb1 kk1 k3
  have q0 := (hb2.cell 0).trans (show _ = some (Value.slice A C.n cap) from rfl)
  have q1 := (hb2.cell 1).trans (show _ = some (Value.int .i64 C.b0) from rfl)
  have q2 := (hb2.cell 2).trans (show _ = some (Value.int .i64 C.b1) from rfl)
  have q3 := (hb2.cell 3).trans (show _ = some (Value.int .i64 C.b2) from rfl)
  have q4 := (hb2.cell 4).trans (show _ = some (Value.int .i64 C.b3) from rfl)
  have q5 := (hb2.cell 5).trans (show _ = some (Value.int .i64 C.r) from rfl)
  have q6 := (hb2.cell 6).trans (show _ = some (Value.int .i64 C.wk) from rfl)
  have q7 := (hb2.cell 7).trans (show _ = some (Value.int .i64 C.lg) from rfl)
  go_wp2_with fail
  (with_reducible refine (H2.out _ kk2).mono ?_)
  rintro e w3 ⟨rfl, k3⟩
  have hb3 := hb2.keep k3 (by simp)
  have kk3 := kk2.trans k3
  have hL3 := hL.keep k3
  clear q0 q1 q2 q3 q4 q5 q6 q7 hb2 kk2 k3 hL
  have q0 := (hb3.cell 0).trans (show _ = some (Value.slice A C.n cap) from rfl)
  have q1 := (hb3.cell 1).trans (show _ = some (Value.int .i64 C.b0) from rfl)
  have q2 := (hb3.cell 2).trans (show _ = some (Value.int .i64 C.b1) from rfl)
  have q3 := (hb3.cell 3).trans (show _ = some (Value.int .i64 C.b2) from rfl)
  have q4 := (hb3.cell 4).trans (show _ = some (Value.int .i64 C.b3) from rfl)
  have q5 := (hb3.cell 5).trans (show _ = some (Value.int .i64 C.r) from rfl)
  have q6 := (hb3.cell 6).trans (show _ = some (Value.int .i64 C.wk) from rfl)
  have q7 := (hb3.cell 7).trans (show _ = some (Value.int .i64 C.lg) from rfl)
  go_wp2_with fail
  (with_reducible refine (H4.out _ kk3).mono ?_)
  rintro e w4 ⟨rfl, k3⟩
  have hb4 := hb3.keep k3 (by simp)
  have kk4 := kk3.trans k3
  have hL4 := hL3.keep k3
  clear q0 q1 q2 q3 q4 q5 q6 q7 hb3 kk3 k3 hL3
  have q0 := (hb4.cell 0).trans (show _ = some (Value.slice A C.n cap) from rfl)
  have q1 := (hb4.cell 1).trans (show _ = some (Value.int .i64 C.b0) from rfl)
  have q2 := (hb4.cell 2).trans (show _ = some (Value.int .i64 C.b1) from rfl)
  have q3 := (hb4.cell 3).trans (show _ = some (Value.int .i64 C.b2) from rfl)
  have q4 := (hb4.cell 4).trans (show _ = some (Value.int .i64 C.b3) from rfl)
  have q5 := (hb4.cell 5).trans (show _ = some (Value.int .i64 C.r) from rfl)
  have q6 := (hb4.cell 6).trans (show _ = some (Value.int .i64 C.wk) from rfl)
  have q7 := (hb4.cell 7).trans (show _ = some (Value.int .i64 C.lg) from rfl)
  go_wp2_with fail
  (with_reducible refine (rlay_any C ok A cap _).mono ?_)
  rintro e w5 ⟨gm, rfl, hR, k3⟩
  have hb5 := hb4.keep k3 (by simp)
  have kk5 := kk4.trans k3
  have hL5 := hL4.keep k3
  clear q0 q1 q2 q3 q4 q5 q6 q7 hb4 kk4 k3 hL4 H2 H3 H4
  have hw := fun n => words_l (hL5.keep (Keep.drewN w5 n))
  have hbl := fun n => blocks_l (hL5.keep (Keep.drewN w5 n))
  have hpg := fun n => pages_l (hL5.keep (Keep.drewN w5 n)) ok
  have hrp := fun n => rpages_l (RLy.keep hR (Keep.drewN w5 n)) ok
  have y19 := (Blk.cell hR 19).trans (show _ = some (Value.int .i64 C.words) from rfl)
  have y18 := (Blk.cell hR 18).trans (show _ = some (Value.int .i64 C.all) from rfl)
  have n1 := neq_self C.words
  have n2 := neq_self C.all
  have n3 := neq_self ((C.all + 7) / 8 : Nat)
  obtain ⟨pg, hpq⟩ : ∃ pg : Nat, (C.all + 7) / 8 = pg := ⟨_, rfl⟩
  rw [hpq] at hpg hrp n3
  clear hpq
  have HH := Lib.hid (And.intro hL5 (And.intro hR (And.intro hb5 kk5)))
  have OK := Lib.hid ok
  clear hL5 hR hb5 kk5 ok
  go_wp2_with fail
  go_quiet ((first | (go_at_call 16; refine quiet_same (hw _)) | (go_at_call 17; refine quiet_same (hbl _)) | (go_at_call 18; refine quiet_same (hpg _)) | (go_at_call 19; refine quiet_same (hrp _))))
  have hd : Keep [] w5 (w5.drewN nq) := Keep.drewN _ _
  clear hw hbl hpg hrp y19 y18 n1 n2 n3
  generalize w5.drewN nq = w6 at *
  have hlog := log_l (HH.out.1.keep hd) OK.out
  have HD := Lib.hid hd
  clear hd
  go_wp2_with fail
  (with_reducible refine hlog.mono ?_)
  rintro e w7 ⟨rfl, d7⟩
  have hx := HH.out
  have hk7 := HD.out.trans d7.keep
  have hL7 := hx.1.keep hk7
  have hR7 := RLy.keep hx.2.1 hk7
  have hb7 := hx.2.2.1.keep hk7 (by simp)
  have kk7 := hx.2.2.2.trans hk7
  clear hx hk7 d7 HD HH hlog
  have y11 := (Blk.cell hR7 11).trans (show _ = some (Value.int .i64 C.log) from rfl)
  have y12 := (Blk.cell hR7 12).trans (show _ = some (Value.int .i64 ((C.log : Int) + C.lg)) from rfl)
  have q0 := (hb7.cell 0).trans (show _ = some (Value.slice A C.n cap) from rfl)
  have q1 := (hb7.cell 1).trans (show _ = some (Value.int .i64 C.b0) from rfl)
  have q2 := (hb7.cell 2).trans (show _ = some (Value.int .i64 C.b1) from rfl)
  have q3 := (hb7.cell 3).trans (show _ = some (Value.int .i64 C.b2) from rfl)
  have q4 := (hb7.cell 4).trans (show _ = some (Value.int .i64 C.b3) from rfl)
  have q5 := (hb7.cell 5).trans (show _ = some (Value.int .i64 C.r) from rfl)
  have q6 := (hb7.cell 6).trans (show _ = some (Value.int .i64 C.wk) from rfl)
  have q7 := (hb7.cell 7).trans (show _ = some (Value.int .i64 C.lg) from rfl)
  have hcf := fun W (hk : Keep [] w7 W) => config_l (hL7.keep hk) OK.out HMM.out
  have HCF := Lib.hid hcf
  have hsc := fun (W : World) (A2 : Option Addr) (cap2 : Nat) (hk : Keep [] w7 W) (h2 : KRow W A2 C.n cap2 m f) => sameConfig_any W A2 A C.n cap2 C.n cap m m f f C.b0 C.b1 C.b2 C.b3 C.r C.wk C.lg C.b0 C.b1 C.b2 C.b3 C.r C.wk C.lg h2 (HK0.out.keep (kk7.trans hk))
  rw [show decide (SameC C.n m f C.b0 C.b1 C.b2 C.b3 C.r C.wk C.lg C.n m f C.b0 C.b1 C.b2 C.b3 C.r C.wk C.lg) = true from decide_eq_true ⟨⟨rfl, rfl, rfl, rfl⟩, rfl, rfl, rfl, SameKs.refl _ _ _⟩] at hsc
  have HSC := Lib.hid hsc
  have HB7 := Lib.hid hb7
  have HX := Lib.hid (And.intro hL7 (And.intro hR7 kk7))
  have n1 := neq_self C.log
  have n2 : ((C.log : Int) + C.lg != (C.log : Int) + C.lg) = false := by simp
  clear hcf hsc hb7 hL7 hR7 kk7
  go_upto_region 11 with fail
  go_cut [115] (fun s wx => s = .bool false ∧ Keep [] w7 wx)
  case first =>
    go_region_with (first | (go_at_call 22; refine (HCF.out _ (by repeat (first | exact Keep.refl _ _ | (with_reducible refine Keep.trans ?_ (Keep.drew _))))).mono ?_; rintro e w8 ⟨A2, cap2, rfl, hK2, k8⟩; have k78 : Keep [] w7 w8 := (by refine Keep.trans ?_ k8; repeat (first | exact Keep.refl _ _ | (with_reducible refine Keep.trans ?_ (Keep.drew _)))); have hb8 := HB7.out.keep k78 (by simp); have v0 := (hb8.cell 0).trans (show _ = some (Value.slice A C.n cap) from rfl); have v1 := (hb8.cell 1).trans (show _ = some (Value.int .i64 C.b0) from rfl); have v2 := (hb8.cell 2).trans (show _ = some (Value.int .i64 C.b1) from rfl); have v3 := (hb8.cell 3).trans (show _ = some (Value.int .i64 C.b2) from rfl); have v4 := (hb8.cell 4).trans (show _ = some (Value.int .i64 C.b3) from rfl); have v5 := (hb8.cell 5).trans (show _ = some (Value.int .i64 C.r) from rfl); have v6 := (hb8.cell 6).trans (show _ = some (Value.int .i64 C.wk) from rfl); have v7 := (hb8.cell 7).trans (show _ = some (Value.int .i64 C.lg) from rfl); clear hb8) | (go_at_call 21; refine (HSC.out _ A2 cap2 k78 hK2).mono ?_; rintro e w9 ⟨rfl, k9⟩))
    all_goals
      go_wp2_with fail
      go_meet
      exact ⟨rfl, k78.trans k9⟩
  case rest =>
  obtain ⟨rfl, hcut⟩ := hcut
  clear y11 y12 n1 n2 HCF HSC
  clear q0 q1 q2 q3 q4 q5 q6 q7
  have hx := HX.out
  have hL := hx.1.keep hcut
  have hR := RLy.keep hx.2.1 hcut
  have hB := HB7.out.keep hcut (by simp)
  have kk := hx.2.2.trans hcut
  have HH := Lib.hid (And.intro hL (And.intro hR (And.intro hB kk)))
  have g1 := OK.out.r
  have g2 := OK.out.wk
  have g3 := OK.out.roots_le
  clear hx hL hR hB kk hcut HX HB7 HK0 HMM
  generalize wc = w8 at *
  go_wp2
  go_loopw [13] (fun x wr => RtRel C w8 x wr) (fun x _ => (18 - intOf x).toNat)
  case atStart => exact ⟨-1, by omega, by omega, rfl, Dr.refl _⟩
  case round =>
  obtain ⟨k, hk1, hk2, rfl, hD⟩ := hrel
  have hLr := HH.out.1.keep hD.keep
  have hRr := RLy.keep HH.out.2.1 hD.keep
  have hBr := HH.out.2.2.1.keep hD.keep (by simp)
  have q5 := (hBr.cell 5).trans (show _ = some (Value.int .i64 C.r) from rfl)
  have q6 := (hBr.cell 6).trans (show _ = some (Value.int .i64 C.wk) from rfl)
  have y8 := (Blk.cell hRr 8).trans (show _ = some (Value.int .i64 C.roots) from rfl)
  have y9 := (Blk.cell hRr 9).trans (show _ = some (Value.int .i64 ((C.roots : Int) + C.r)) from rfl)
  by_cases hneg : k < 0
  case pos =>
    have rt := root_no hLr k (Or.inl hneg)
    have wt := weak_no hLr k (Or.inl hneg)
    have t1 : k ≤ (C.r : Int) := by omega
    clear hLr hRr hBr
    go_wp2_with fail
    (with_reducible refine rt.mono ?_)
    rintro e w' ⟨rfl, rfl⟩
    go_wp2_with fail
    (with_reducible refine wt.mono ?_)
    rintro e w' ⟨rfl, rfl⟩
    go_wp2
    go_roundw
    case rel => exact ⟨k + 1, by omega, by omega, by go_num, hD⟩
    case measure => simp [intOf]; omega
  obtain ⟨j, rfl⟩ := Int.eq_ofNat_of_zero_le (show 0 ≤ k by omega)
  by_cases u1 : j < C.r
  case pos =>
    have t1 : j ≤ C.r := by omega
    by_cases u2 : j < C.wk
    case pos =>
      have rt := rootI hLr OK.out j u1
      have wt := weakI hLr OK.out j u2
      clear hLr hRr hBr
      go_wp2_with fail
      (with_reducible refine rt.mono ?_)
      rintro e w' ⟨rfl, rfl⟩
      go_wp2_with fail
      (with_reducible refine wt.mono ?_)
      rintro e wz ⟨rfl, d⟩
      go_wp2
      go_roundw
      case rel => exact ⟨(j : Int) + 1, by omega, by omega, by go_num, hD.trans d⟩
      case measure => simp [intOf]; omega
    case neg =>
      have rt := rootI hLr OK.out j u1
      have wt := weak_no hLr (j : Int) (Or.inr (by omega))
      clear hLr hRr hBr
      go_wp2_with fail
      (with_reducible refine rt.mono ?_)
      rintro e w' ⟨rfl, rfl⟩
      go_wp2_with fail
      (with_reducible refine wt.mono ?_)
      rintro e wz ⟨rfl, rfl⟩
      go_wp2
      go_roundw
      case rel => exact ⟨(j : Int) + 1, by omega, by omega, by go_num, hD⟩
      case measure => simp [intOf]; omega
  by_cases t1 : j ≤ C.r
  case pos =>
    by_cases u2 : j < C.wk
    case pos =>
      have rt := root_no hLr (j : Int) (Or.inr (by omega))
      have wt := weakI hLr OK.out j u2
      clear hLr hRr hBr
      go_wp2_with fail
      (with_reducible refine rt.mono ?_)
      rintro e w' ⟨rfl, rfl⟩
      go_wp2_with fail
      (with_reducible refine wt.mono ?_)
      rintro e wz ⟨rfl, d⟩
      go_wp2
      go_roundw
      case rel => exact ⟨(j : Int) + 1, by omega, by omega, by go_num, hD.trans d⟩
      case measure => simp [intOf]; omega
    case neg =>
      have rt := root_no hLr (j : Int) (Or.inr (by omega))
      have wt := weak_no hLr (j : Int) (Or.inr (by omega))
      clear hLr hRr hBr
      go_wp2_with fail
      (with_reducible refine rt.mono ?_)
      rintro e w' ⟨rfl, rfl⟩
      go_wp2_with fail
      (with_reducible refine wt.mono ?_)
      rintro e wz ⟨rfl, rfl⟩
      go_wp2
      go_roundw
      case rel => exact ⟨(j : Int) + 1, by omega, by omega, by go_num, hD⟩
      case measure => simp [intOf]; omega
  by_cases t2 : j ≤ C.wk
  case pos =>
    by_cases u2 : j < C.wk
    case pos =>
      have rt := root_no hLr (j : Int) (Or.inr (by omega))
      have wt := weakI hLr OK.out j u2
      clear hLr hRr hBr
      go_wp2_with fail
      (with_reducible refine rt.mono ?_)
      rintro e w' ⟨rfl, rfl⟩
      go_wp2_with fail
      (with_reducible refine wt.mono ?_)
      rintro e wz ⟨rfl, d⟩
      go_wp2
      go_roundw
      case rel => exact ⟨(j : Int) + 1, by omega, by omega, by go_num, hD.trans d⟩
      case measure => simp [intOf]; omega
    case neg =>
      have rt := root_no hLr (j : Int) (Or.inr (by omega))
      have wt := weak_no hLr (j : Int) (Or.inr (by omega))
      clear hLr hRr hBr
      go_wp2_with fail
      (with_reducible refine rt.mono ?_)
      rintro e w' ⟨rfl, rfl⟩
      go_wp2_with fail
      (with_reducible refine wt.mono ?_)
      rintro e wz ⟨rfl, rfl⟩
      go_wp2
      go_roundw
      case rel => exact ⟨(j : Int) + 1, by omega, by omega, by go_num, hD⟩
      case measure => simp [intOf]; omega
  have y18 := (Blk.cell hRr 18).trans (show _ = some (Value.int .i64 C.all) from rfl)
  have HO := Lib.hid (And.intro hLr (And.intro hRr (HH.out.2.2.2.trans hD.keep)))
  have g4 := OK.out.all_le
  have g5 := OK.out.bits_le
  clear hLr hRr hBr HH hD y8 y9
  generalize wr = wo at *
  go_wp2
  clear q5 q6 y18
  go_loopw [175] (fun x wr => BkRel wo x wr) (fun x _ => 4 - (intOf x).toNat)
  case atStart => exact ⟨0, by omega, rfl, Dr.refl _⟩
  case round =>
  obtain ⟨i, hi, rfl, hD⟩ := hrel
  by_cases hlt : i < 4
  case pos =>
    have ij := fun W => idx4 W b (-1) 0 (C.all : Int) i hlt
    obtain ⟨x, hx⟩ : ∃ x, elt4 b (-1) 0 (C.all : Int) i = x := ⟨_, rfl⟩
    rw [hx] at ij
    clear hx
    have hLr := HO.out.1.keep hD.keep
    have hRr := RLy.keep HO.out.2.1 hD.keep
    by_cases hin : 0 ≤ x ∧ x < C.all
    case neg =>
      have hout : x < 0 ∨ (C.all : Int) ≤ x := by omega
      have r1 := rclass_no hRr x hout
      have r2 := class_no hLr x hout
      have r3 := size_no hLr x hout
      have r4 := at_no hLr x hout
      have r5 := rat_no hRr x hout
      have r6 := bits_no hLr x hout
      clear hLr hRr hin hout
      go_wp2_with fail
      (with_reducible refine r1.mono ?_)
      rintro e w' ⟨rfl, rfl⟩
      go_wp2_with fail
      (with_reducible refine r2.mono ?_)
      rintro e w' ⟨rfl, rfl⟩
      go_wp2_with fail
      (with_reducible refine r1.mono ?_)
      rintro e w' ⟨rfl, rfl⟩
      go_wp2_with fail
      (with_reducible refine r3.mono ?_)
      rintro e w' ⟨rfl, rfl⟩
      go_wp2_with fail
      (with_reducible refine r4.mono ?_)
      rintro e w' ⟨rfl, rfl⟩
      go_wp2_with fail
      (with_reducible refine r5.mono ?_)
      rintro e w' ⟨rfl, rfl⟩
      go_wp2_with fail
      (with_reducible refine r6.mono ?_)
      rintro e w' ⟨rfl, rfl⟩
      go_wp2
      go_roundw
      case rel => exact ⟨i + 1, by omega, by go_num, hD⟩
      case measure => simp [intOf]; omega
    obtain ⟨y, rfl⟩ := Int.eq_ofNat_of_zero_le hin.1
    have hy : y < C.all := by omega
    have r1 := fun W (hk : Keep [] wr W) => rclass_yes (RLy.keep hRr hk) y hy
    have r2 := fun W (hk : Keep [] wr W) => class_yes (hLr.keep hk) y hy
    have r3 := fun W (hk : Keep [] wr W) => size_yes (hLr.keep hk) y hy
    have r4 := fun W (hk : Keep [] wr W) => at_yes (hLr.keep hk) OK.out y hy
    have r5 := fun W (hk : Keep [] wr W) => rat_yes (RLy.keep hRr hk) OK.out y hy
    have r6 := fun W (hk : Keep [] wr W) => bitsI (hLr.keep hk) OK.out y hy
    have r7 := fun W => rsize_any (C.cls y) (C.cls_lt y) W
    obtain ⟨kc, hkc⟩ : ∃ kc, C.cls y = kc := ⟨_, rfl⟩
    obtain ⟨av, hav⟩ : ∃ av, C.at_ y = av := ⟨_, rfl⟩
    rw [hkc] at r1 r2 r3 r7
    rw [hav] at r4 r5
    obtain ⟨sz, hsz⟩ : ∃ sz, 2 * 2 ^ kc = sz := ⟨_, rfl⟩
    rw [hsz] at r3 r7
    have y10 := (Blk.cell hRr 10).trans (show _ = some (Value.int .i64 C.bits) from rfl)
    have r1n := fun nn => r1 (wr.drewN nn) (Keep.drewN _ _)
    have R1 := Lib.hid r1
    have R2 := Lib.hid r2
    have R3 := Lib.hid r3
    have R4 := Lib.hid r4
    have R5 := Lib.hid r5
    have R6 := Lib.hid r6
    have R7 := Lib.hid r7
    have R1N := Lib.hid r1n
    have hy2 : y ≤ 2048 := by omega
    have hy3 : (y : Int) / 64 ≤ 32 := by omega
    have hy4 : 0 ≤ (y : Int) / 64 := by omega
    clear r1 r2 r3 r4 r5 r6 r7 r1n hkc hav hsz hin hLr hRr
    go_wp2_with fail
    (with_reducible refine (R1.out _ (Keep.refl _ _)).mono ?_)
    rintro e w' ⟨rfl, rfl⟩
    go_wp2_with fail
    go_quiet ((first | (go_at_call 25; refine quiet_same (R1N.out _)) | (go_at_call 26; refine quiet_same (R7.out _))))
    have D1 : Dr wr (wr.drewN nq) := Dr.drewN _ _
    clear y10 R1N R7
    generalize wr.drewN nq = wb at *
    have n1 := neq_self kc
    have n2 := neq_self sz
    have n3 := neq_self av
    have n4 : ((C.bits : Int) + (y : Int) / 64 != (C.bits : Int) + (y : Int) / 64) = false := by simp
    go_wp2_with fail
    (with_reducible refine (R2.out _ D1.keep).mono ?_)
    rintro e w' ⟨rfl, rfl⟩
    go_wp2_with fail
    (with_reducible refine (R1.out _ D1.keep).mono ?_)
    rintro e w' ⟨rfl, rfl⟩
    go_wp2_with fail
    (with_reducible refine (R3.out _ D1.keep).mono ?_)
    rintro e w' ⟨rfl, rfl⟩
    go_wp2_with fail
    (with_reducible refine (R4.out _ D1.keep).mono ?_)
    rintro e wc ⟨rfl, d2⟩
    have D2 := D1.trans d2
    go_wp2_with fail
    (with_reducible refine (R5.out _ D2.keep).mono ?_)
    rintro e wd ⟨rfl, d3⟩
    have D3 := D2.trans d3
    go_wp2_with fail
    (with_reducible refine (R6.out _ D3.keep).mono ?_)
    rintro e w' ⟨rfl, rfl⟩
    go_wp2
    go_roundw
    case rel => exact ⟨i + 1, by omega, by go_num, hD.trans D3⟩
    case measure => simp [intOf]; omega
  obtain rfl : i = 4 := by omega
  have hLr := HO.out.1.keep hD.keep
  have hRr := RLy.keep HO.out.2.1 hD.keep
  have kkr := HO.out.2.2.trans hD.keep
  clear HO hD
  by_cases hc1 : cl < 0
  case pos =>
    have rr := range_no hLr cl (Or.inl hc1)
    go_wp2_with fail
    (with_reducible refine rr.mono ?_)
    rintro e w' ⟨rfl, rfl⟩
    go_wp2_with fail
    (with_reducible refine (hA _).mono ?_)
    rintro e w' ⟨rfl, k5⟩
    go_wp2
    go_ret
    exact ⟨rfl, kkr.trans k5⟩
  by_cases hc2 : 3 < cl
  case pos =>
    have rr := range_no hLr cl (Or.inr (by omega))
    go_wp2_with fail
    (with_reducible refine rr.mono ?_)
    rintro e w' ⟨rfl, rfl⟩
    go_wp2_with fail
    (with_reducible refine (hA _).mono ?_)
    rintro e w' ⟨rfl, k5⟩
    go_wp2
    go_ret
    exact ⟨rfl, kkr.trans k5⟩
  obtain ⟨c, rfl⟩ := Int.eq_ofNat_of_zero_le (show 0 ≤ cl by omega)
  have hc : c < 4 := by omega
  clear hc1 hc2
  match c, hc with
  | 0, _ =>
    have rr := range_0 hLr
    go_wp2_with fail
    (with_reducible refine rr.mono ?_)
    rintro e wz ⟨rfl, dz⟩
    have ya := (Blk.cell (RLy.keep hRr dz.keep) 14).trans (show _ = some (Value.int .i64 0) from rfl)
    have yb := (Blk.cell (RLy.keep hRr dz.keep) 15).trans (show _ = some (Value.int .i64 C.f1) from rfl)
    clear hLr hRr
    go_wp2_with fail
    (with_reducible refine (hA _).mono ?_)
    rintro e w' ⟨rfl, k5⟩
    go_wp2
    go_ret
    exact ⟨rfl, (kkr.trans dz.keep).trans k5⟩
  | 1, _ =>
    have rr := range_1 hLr
    go_wp2_with fail
    (with_reducible refine rr.mono ?_)
    rintro e wz ⟨rfl, dz⟩
    have ya := (Blk.cell (RLy.keep hRr dz.keep) 15).trans (show _ = some (Value.int .i64 C.f1) from rfl)
    have yb := (Blk.cell (RLy.keep hRr dz.keep) 16).trans (show _ = some (Value.int .i64 C.f2) from rfl)
    clear hLr hRr
    go_wp2_with fail
    (with_reducible refine (hA _).mono ?_)
    rintro e w' ⟨rfl, k5⟩
    go_wp2
    go_ret
    exact ⟨rfl, (kkr.trans dz.keep).trans k5⟩
  | 2, _ =>
    have rr := range_2 hLr
    go_wp2_with fail
    (with_reducible refine rr.mono ?_)
    rintro e wz ⟨rfl, dz⟩
    have ya := (Blk.cell (RLy.keep hRr dz.keep) 16).trans (show _ = some (Value.int .i64 C.f2) from rfl)
    have yb := (Blk.cell (RLy.keep hRr dz.keep) 17).trans (show _ = some (Value.int .i64 C.f3) from rfl)
    clear hLr hRr
    go_wp2_with fail
    (with_reducible refine (hA _).mono ?_)
    rintro e w' ⟨rfl, k5⟩
    go_wp2
    go_ret
    exact ⟨rfl, (kkr.trans dz.keep).trans k5⟩
  | 3, _ =>
    have rr := range_3 hLr
    go_wp2_with fail
    (with_reducible refine rr.mono ?_)
    rintro e wz ⟨rfl, dz⟩
    have ya := (Blk.cell (RLy.keep hRr dz.keep) 17).trans (show _ = some (Value.int .i64 C.f3) from rfl)
    have yb := (Blk.cell (RLy.keep hRr dz.keep) 18).trans (show _ = some (Value.int .i64 C.all) from rfl)
    clear hLr hRr
    go_wp2_with fail
    (with_reducible refine (hA _).mono ?_)
    rintro e w' ⟨rfl, k5⟩
    go_wp2
    go_ret
    exact ⟨rfl, (kkr.trans dz.keep).trans k5⟩
end Go.Proofs.Ytihfejbkojhkaaa
