/-
  LayoutGrows' walk. No conditions but what came in.
-/
import Derived.Test.YtihfejbkojhkaaaWPg
namespace Go.Flo
theorem ln_mono {x y : Nat} (h : x ≤ y) : ln x ≤ ln y := by unfold ln; omega
structure Cf.Le (C D : Cf) : Prop where
  n : C.n ≤ D.n
  b0 : C.b0 ≤ D.b0
  b1 : C.b1 ≤ D.b1
  b2 : C.b2 ≤ D.b2
  b3 : C.b3 ≤ D.b3
  r : C.r ≤ D.r
  wk : C.wk ≤ D.wk
  lg : C.lg ≤ D.lg
theorem Cf.Le.all {C D : Cf} (h : Cf.Le C D) : C.all ≤ D.all := by have := h.b0; have := h.b1; have := h.b2; have := h.b3; unfold Cf.all; omega
theorem Cf.Le.roots {C D : Cf} (h : Cf.Le C D) : C.roots ≤ D.roots := ln_mono (by have := h.n; omega)
theorem Cf.Le.bits {C D : Cf} (h : Cf.Le C D) : C.bits ≤ D.bits := ln_mono (by have := h.roots; have := h.r; have := h.wk; omega)
theorem Cf.Le.log {C D : Cf} (h : Cf.Le C D) : C.log ≤ D.log := ln_mono (by have := h.bits; have := h.all; omega)
theorem Cf.Le.s0 {C D : Cf} (h : Cf.Le C D) : C.s0 ≤ D.s0 := ln_mono (by have := h.log; have := h.lg; omega)
theorem Cf.Le.words {C D : Cf} (h : Cf.Le C D) : C.words ≤ D.words := ln_mono (by have := h.s0; have := h.b0; have := h.b1; have := h.b2; have := h.b3; unfold Cf.s3 Cf.s2 Cf.s1; omega)
theorem MayC.okN {C : Cf} {m : Nat → Nat} {f : Nat → Nat → Int} (h : MayC C.n m f C.b0 C.b1 C.b2 C.b3 C.r C.wk C.lg) : C.Ok := by
  obtain ⟨D, ok, e0, e1, e2, e3, e4, e5, e6, e7⟩ := h.cf
  have : D = C := by
    cases C; cases D
    simp only [Int.ofNat_inj] at e0 e1 e2 e3 e4 e5 e6 e7
    simp_all
  exact this ▸ ok
theorem Cf.at0 {C : Cf} (h : 1 ≤ C.all) : (if 0 < C.f1 then C.s0 + 0 * 2 else if 0 < C.f2 then C.s1 + (0 - C.f1) * 4 else if 0 < C.f3 then C.s2 + (0 - C.f2) * 8 else C.s3 + (0 - C.f3) * 16) = C.s0 := by
  unfold Cf.f1 Cf.f2 Cf.f3 Cf.s3 Cf.s2 Cf.s1
  unfold Cf.all at h
  (repeat' split) <;> omega
end Go.Flo
namespace Go.Proofs.Ytihfejbkojhkaaa
open Go.RowKit Go.Flo Go.Bit
set_option maxRecDepth 100000

theorem modI (a : Int) (m : Nat) (hm : 0 < m) (hm' : m ≤ 65) : ∃ f : Nat, f < m ∧ wrap64 ((IntKind.u64.wrap a).tmod m) = f := slot_mod a m hm hm'
theorem at0_l {w : World} {g : Nat} {C : Cf} {m : Nat → Nat} {f : Nat → Nat → Int} (h : Lyt w g C m f) (ok : C.Ok) : Calls Try.prog 29 #[.pointer (some ⟨g, 0, none⟩), .int .i64 0] w fun e w' => e = .returned (.int .i64 (C.s0 : Nat)) ∧ Dr w w' := by
  have h1 : 1 ≤ C.all := ok.all
  have := at_yes h ok 0 (by omega)
  unfold Cf.at_ at this
  rw [Cf.at0 h1] at this
  exact this

set_option maxHeartbeats 2000000 in
theorem grows_0 (A : Option Addr) (cap : Nat) (C : Cf) (m : Nat → Nat) (f : Nat → Nat → Int) (a1 a2 : Int) (mo : Nat) (hmo : mo < 9) (w : World) (ok : C.Ok) (hks : MayKs C.n m f) (hMC : MayC C.n m f C.b0 C.b1 C.b2 C.b3 C.r C.wk C.lg) (h : KRow w A C.n cap m f)
    (ek : wrap64 ((IntKind.u64.wrap a1).tmod 6) = 0) (em : wrap64 ((IntKind.u64.wrap a2).tmod 9) = mo) :
    Calls Try.prog 8 #[.agg #[.slice A C.n cap, .int .i64 C.b0, .int .i64 C.b1, .int .i64 C.b2, .int .i64 C.b3, .int .i64 C.r, .int .i64 C.wk, .int .i64 C.lg], .int .i64 a1, .int .i64 a2] w fun e w' => e = .returned (.bool true) ∧ Keep [] w w' := by
  have hb := Blk.new w 25 #[.slice A C.n cap, .int .i64 C.b0, .int .i64 C.b1, .int .i64 C.b2, .int .i64 C.b3, .int .i64 C.r, .int .i64 C.wk, .int .i64 C.lg]
  have k1 : Keep [] w (w.alloc (.cells #[.slice A C.n cap, .int .i64 C.b0, .int .i64 C.b1, .int .i64 C.b2, .int .i64 C.b3, .int .i64 C.r, .int .i64 C.wk, .int .i64 C.lg] 25)) := Keep.alloc _ _
  have h1 := light_any _ A C.n cap m f C.b0 C.b1 C.b2 C.b3 C.r C.wk C.lg (h.keep k1)
  rw [show decide (Light C.n m) = true from decide_eq_true hMC.light] at h1
  have hA := awake6_any
  have h2 := fun W (hk : Keep [] w W) => rmay_any W A C.n cap m f C.b0 C.b1 C.b2 C.b3 C.r C.wk C.lg ⟨by omega, by have := ok.lg; omega⟩ (h.keep hk)
  rw [show mayE C.n m f C.b0 C.b1 C.b2 C.b3 C.r C.wk C.lg = 0 from if_pos hMC] at h2
  have h3 := fun W (hk : Keep [] w W) => rmay_any W A C.n cap m f ((C.b0 : Int) + ((mo : Int) + 1)) (C.b1 : Int) (C.b2 : Int) (C.b3 : Int) (C.r : Int) (C.wk : Int) (C.lg : Int) ⟨by omega, by have := ok.lg; omega⟩ (h.keep hk)
  have h4 := fun W (hk : Keep [] w W) => new_yes W A cap C m f ok hks (h.keep hk)
  have H2 := Lib.hid h2
  have H4 := Lib.hid h4
  have hbnd := ok.b0
  clear h2 h4
  by_cases hM : MayC C.n m f ((C.b0 : Int) + ((mo : Int) + 1)) (C.b1 : Int) (C.b2 : Int) (C.b3 : Int) (C.r : Int) (C.wk : Int) (C.lg : Int)
  case neg =>
    rw [show mayE C.n m f ((C.b0 : Int) + ((mo : Int) + 1)) (C.b1 : Int) (C.b2 : Int) (C.b3 : Int) (C.r : Int) (C.wk : Int) (C.lg : Int) = 1 from if_neg hM] at h3
    have H3 := Lib.hid h3
    clear h3 hM hMC hks
    go_enter Try.func8, Try.ntmps8
    go_wp2_with fail
    (with_reducible refine h1.mono ?_)
    rintro e w1 ⟨rfl, k2⟩
    have hb1 := hb.keep k2 (by simp)
    have q0 := (hb1.cell 0).trans (show _ = some (Value.slice A C.n cap) from rfl)
    have q1 := (hb1.cell 1).trans (show _ = some (Value.int .i64 C.b0) from rfl)
    have q2 := (hb1.cell 2).trans (show _ = some (Value.int .i64 C.b1) from rfl)
    have q3 := (hb1.cell 3).trans (show _ = some (Value.int .i64 C.b2) from rfl)
    have q4 := (hb1.cell 4).trans (show _ = some (Value.int .i64 C.b3) from rfl)
    have q5 := (hb1.cell 5).trans (show _ = some (Value.int .i64 C.r) from rfl)
    have q6 := (hb1.cell 6).trans (show _ = some (Value.int .i64 C.wk) from rfl)
    have q7 := (hb1.cell 7).trans (show _ = some (Value.int .i64 C.lg) from rfl)
    clear h1
    go_wp2_with fail
    (with_reducible refine (H2.out _ (k1.trans k2)).mono ?_)
    rintro e w2 ⟨rfl, k3⟩
    have hb2 := hb1.keep k3 (by simp)
    clear q0 q1 q2 q3 q4 q5 q6 q7 H2 hb1
    have q0 := (hb2.cell 0).trans (show _ = some (Value.slice A C.n cap) from rfl)
    have q1 := (hb2.cell 1).trans (show _ = some (Value.int .i64 C.b0) from rfl)
    have q2 := (hb2.cell 2).trans (show _ = some (Value.int .i64 C.b1) from rfl)
    have q3 := (hb2.cell 3).trans (show _ = some (Value.int .i64 C.b2) from rfl)
    have q4 := (hb2.cell 4).trans (show _ = some (Value.int .i64 C.b3) from rfl)
    have q5 := (hb2.cell 5).trans (show _ = some (Value.int .i64 C.r) from rfl)
    have q6 := (hb2.cell 6).trans (show _ = some (Value.int .i64 C.wk) from rfl)
    have q7 := (hb2.cell 7).trans (show _ = some (Value.int .i64 C.lg) from rfl)
    have kk : Keep [] w w2 := (k1.trans k2).trans k3
    go_wp2_with fail
    (with_reducible refine (H3.out _ (kk.trans (Keep.alloc _ _))).mono ?_)
    rintro e w3 ⟨rfl, k4⟩
    have k5 := (kk.trans (Keep.alloc _ _)).trans k4
    go_wp2_with fail
    (with_reducible refine (hA _).mono ?_)
    rintro e w4 ⟨rfl, k6⟩
    go_wp2
    go_ret
    exact ⟨rfl, k5.trans k6⟩
  rw [show mayE C.n m f ((C.b0 : Int) + ((mo : Int) + 1)) (C.b1 : Int) (C.b2 : Int) (C.b3 : Int) (C.r : Int) (C.wk : Int) (C.lg : Int) = 0 from if_pos hM] at h3
  have H3 := Lib.hid h3
  obtain ⟨D, rfl⟩ : ∃ D : Cf, D = ⟨C.n, C.b0 + (mo + 1), C.b1, C.b2, C.b3, C.r, C.wk, C.lg⟩ := ⟨_, rfl⟩
  have okD : (⟨C.n, C.b0 + (mo + 1), C.b1, C.b2, C.b3, C.r, C.wk, C.lg⟩ : Cf).Ok := MayC.okN (m := m) (f := f) (by
    have e : ((C.b0 + (mo + 1) : Nat) : Int) = (C.b0 : Int) + ((mo : Int) + 1) := by omega
    show MayC C.n m f ((C.b0 + (mo + 1) : Nat) : Int) (C.b1 : Int) (C.b2 : Int) (C.b3 : Int) (C.r : Int) (C.wk : Int) (C.lg : Int)
    rw [e]
    exact hM)
  have h5 : ∀ W, Keep [] w W → Calls Try.prog 12 #[.agg #[.slice A C.n cap, .int .i64 ((C.b0 : Int) + ((mo : Int) + 1)), .int .i64 C.b1, .int .i64 C.b2, .int .i64 C.b3, .int .i64 C.r, .int .i64 C.wk, .int .i64 C.lg]] W (LytPost ⟨C.n, C.b0 + (mo + 1), C.b1, C.b2, C.b3, C.r, C.wk, C.lg⟩ m f W) := by
    intro W hk
    have := new_yes W A cap ⟨C.n, C.b0 + (mo + 1), C.b1, C.b2, C.b3, C.r, C.wk, C.lg⟩ m f okD hks (h.keep hk)
    have e : ((C.b0 + (mo + 1) : Nat) : Int) = (C.b0 : Int) + ((mo : Int) + 1) := by omega
    dsimp only at this
    rw [e] at this
    exact this
  have hle : Cf.Le C ⟨C.n, C.b0 + (mo + 1), C.b1, C.b2, C.b3, C.r, C.wk, C.lg⟩ := by constructor <;> dsimp only <;> omega
  generalize hDD : (⟨C.n, C.b0 + (mo + 1), C.b1, C.b2, C.b3, C.r, C.wk, C.lg⟩ : Cf) = D at okD h5 hle
  have H5 := Lib.hid h5
  have OK := Lib.hid ok
  have OKD := Lib.hid okD
  have HL := Lib.hid hle
  clear h3 hM hMC hks h5 okD ok hle hDD
  go_enter Try.func8, Try.ntmps8
  go_wp2_with fail
  (with_reducible refine h1.mono ?_)
  rintro e w1 ⟨rfl, k2⟩
  have hb1 := hb.keep k2 (by simp)
  have q0 := (hb1.cell 0).trans (show _ = some (Value.slice A C.n cap) from rfl)
  have q1 := (hb1.cell 1).trans (show _ = some (Value.int .i64 C.b0) from rfl)
  have q2 := (hb1.cell 2).trans (show _ = some (Value.int .i64 C.b1) from rfl)
  have q3 := (hb1.cell 3).trans (show _ = some (Value.int .i64 C.b2) from rfl)
  have q4 := (hb1.cell 4).trans (show _ = some (Value.int .i64 C.b3) from rfl)
  have q5 := (hb1.cell 5).trans (show _ = some (Value.int .i64 C.r) from rfl)
  have q6 := (hb1.cell 6).trans (show _ = some (Value.int .i64 C.wk) from rfl)
  have q7 := (hb1.cell 7).trans (show _ = some (Value.int .i64 C.lg) from rfl)
  clear h1
  go_wp2_with fail
  (with_reducible refine (H2.out _ (k1.trans k2)).mono ?_)
  rintro e w2 ⟨rfl, k3⟩
  have hb2 := hb1.keep k3 (by simp)
  clear q0 q1 q2 q3 q4 q5 q6 q7 H2 hb1
  have q0 := (hb2.cell 0).trans (show _ = some (Value.slice A C.n cap) from rfl)
  have q1 := (hb2.cell 1).trans (show _ = some (Value.int .i64 C.b0) from rfl)
  have q2 := (hb2.cell 2).trans (show _ = some (Value.int .i64 C.b1) from rfl)
  have q3 := (hb2.cell 3).trans (show _ = some (Value.int .i64 C.b2) from rfl)
  have q4 := (hb2.cell 4).trans (show _ = some (Value.int .i64 C.b3) from rfl)
  have q5 := (hb2.cell 5).trans (show _ = some (Value.int .i64 C.r) from rfl)
  have q6 := (hb2.cell 6).trans (show _ = some (Value.int .i64 C.wk) from rfl)
  have q7 := (hb2.cell 7).trans (show _ = some (Value.int .i64 C.lg) from rfl)
  have kk : Keep [] w w2 := (k1.trans k2).trans k3
  have hbd := Blk.new w2 25 #[.slice A C.n cap, .int .i64 ((C.b0 : Int) + ((mo : Int) + 1)), .int .i64 C.b1, .int .i64 C.b2, .int .i64 C.b3, .int .i64 C.r, .int .i64 C.wk, .int .i64 C.lg]
  have ka : Keep [] w2 (w2.alloc (.cells #[.slice A C.n cap, .int .i64 ((C.b0 : Int) + ((mo : Int) + 1)), .int .i64 C.b1, .int .i64 C.b2, .int .i64 C.b3, .int .i64 C.r, .int .i64 C.wk, .int .i64 C.lg] 25)) := Keep.alloc _ _
  have hb3 := hb2.keep ka (by simp)
  go_wp2_with fail
  (with_reducible refine (H3.out _ (kk.trans ka)).mono ?_)
  rintro e w3 ⟨rfl, k4⟩
  have hb4 := hb3.keep k4 (by simp)
  have hbd4 := hbd.keep k4 (by simp)
  have k5 := (kk.trans ka).trans k4
  clear q0 q1 q2 q3 q4 q5 q6 q7 H3 hb2 hb3 hbd ka kk k4
  have q0 := (hb4.cell 0).trans (show _ = some (Value.slice A C.n cap) from rfl)
  have q1 := (hb4.cell 1).trans (show _ = some (Value.int .i64 C.b0) from rfl)
  have q2 := (hb4.cell 2).trans (show _ = some (Value.int .i64 C.b1) from rfl)
  have q3 := (hb4.cell 3).trans (show _ = some (Value.int .i64 C.b2) from rfl)
  have q4 := (hb4.cell 4).trans (show _ = some (Value.int .i64 C.b3) from rfl)
  have q5 := (hb4.cell 5).trans (show _ = some (Value.int .i64 C.r) from rfl)
  have q6 := (hb4.cell 6).trans (show _ = some (Value.int .i64 C.wk) from rfl)
  have q7 := (hb4.cell 7).trans (show _ = some (Value.int .i64 C.lg) from rfl)
  go_wp2_with fail
  (with_reducible refine (H4.out _ k5).mono ?_)
  rintro e w4 ⟨g, rfl, hL1, k6⟩
  have hbd5 := hbd4.keep k6 (by simp)
  have k7 := k5.trans k6
  clear q0 q1 q2 q3 q4 q5 q6 q7 H4 hb4
  have q0 := (hbd5.cell 0).trans (show _ = some (Value.slice A C.n cap) from rfl)
  have q1 := (hbd5.cell 1).trans (show _ = some (Value.int .i64 ((C.b0 : Int) + ((mo : Int) + 1))) from rfl)
  have q2 := (hbd5.cell 2).trans (show _ = some (Value.int .i64 C.b1) from rfl)
  have q3 := (hbd5.cell 3).trans (show _ = some (Value.int .i64 C.b2) from rfl)
  have q4 := (hbd5.cell 4).trans (show _ = some (Value.int .i64 C.b3) from rfl)
  have q5 := (hbd5.cell 5).trans (show _ = some (Value.int .i64 C.r) from rfl)
  have q6 := (hbd5.cell 6).trans (show _ = some (Value.int .i64 C.wk) from rfl)
  have q7 := (hbd5.cell 7).trans (show _ = some (Value.int .i64 C.lg) from rfl)
  go_wp2_with fail
  (with_reducible refine (H5.out _ k7).mono ?_)
  rintro e w5 ⟨g2, rfl, hL2, k8⟩
  clear q0 q1 q2 q3 q4 q5 q6 q7 H5 hbd5
  have hL1' := hL1.keep k8
  have k9 := k7.trans k8
  have t1 := HL.out.words
  have t2 := HL.out.s0
  have t3 := HL.out.all
  have wC := words_l hL1'
  have wD := words_l hL2
  have aC := fun W hh => at0_l (w := W) (g := g) (C := C) (m := m) (f := f) hh OK.out
  have aD := at0_l hL2 OKD.out
  have AC := Lib.hid aC
  clear aC
  go_wp2_with fail
  (with_reducible refine wD.mono ?_)
  rintro e w' ⟨rfl, rfl⟩
  go_wp2_with fail
  (with_reducible refine wC.mono ?_)
  rintro e w' ⟨rfl, rfl⟩
  go_wp2_with fail
  (with_reducible refine aD.mono ?_)
  rintro e w6 ⟨rfl, d1⟩
  have hL1b := hL1'.keep d1.keep
  have hL2b := hL2.keep d1.keep
  go_wp2_with fail
  (with_reducible refine (AC.out _ hL1b).mono ?_)
  rintro e w7 ⟨rfl, d2⟩
  have hL1c := hL1b.keep d2.keep
  have hL2c := hL2b.keep d2.keep
  have bC := blocks_l hL1c
  have bD := blocks_l hL2c
  have pC := pages_l hL1c OK.out
  have pD := pages_l hL2c OKD.out
  have t4 : (C.all + 7) / 8 ≤ (D.all + 7) / 8 := by omega
  generalize (C.all + 7) / 8 = pc at pC t4
  generalize (D.all + 7) / 8 = pd at pD t4
  go_wp2_with fail
  (with_reducible refine bD.mono ?_)
  rintro e w' ⟨rfl, rfl⟩
  go_wp2_with fail
  (with_reducible refine bC.mono ?_)
  rintro e w' ⟨rfl, rfl⟩
  go_wp2_with fail
  (with_reducible refine pD.mono ?_)
  rintro e w' ⟨rfl, rfl⟩
  go_wp2_with fail
  (with_reducible refine pC.mono ?_)
  rintro e w' ⟨rfl, rfl⟩
  go_wp2_with fail
  (with_reducible refine (hA _).mono ?_)
  rintro e w8 ⟨rfl, kb⟩
  go_wp2
  go_ret
  exact ⟨rfl, ((k9.trans d1.keep).trans d2.keep).trans kb⟩

set_option maxHeartbeats 2000000 in
theorem grows_1 (A : Option Addr) (cap : Nat) (C : Cf) (m : Nat → Nat) (f : Nat → Nat → Int) (a1 a2 : Int) (mo : Nat) (hmo : mo < 9) (w : World) (ok : C.Ok) (hks : MayKs C.n m f) (hMC : MayC C.n m f C.b0 C.b1 C.b2 C.b3 C.r C.wk C.lg) (h : KRow w A C.n cap m f)
    (ek : wrap64 ((IntKind.u64.wrap a1).tmod 6) = 1) (em : wrap64 ((IntKind.u64.wrap a2).tmod 9) = mo) :
    Calls Try.prog 8 #[.agg #[.slice A C.n cap, .int .i64 C.b0, .int .i64 C.b1, .int .i64 C.b2, .int .i64 C.b3, .int .i64 C.r, .int .i64 C.wk, .int .i64 C.lg], .int .i64 a1, .int .i64 a2] w fun e w' => e = .returned (.bool true) ∧ Keep [] w w' := by
  have hb := Blk.new w 25 #[.slice A C.n cap, .int .i64 C.b0, .int .i64 C.b1, .int .i64 C.b2, .int .i64 C.b3, .int .i64 C.r, .int .i64 C.wk, .int .i64 C.lg]
  have k1 : Keep [] w (w.alloc (.cells #[.slice A C.n cap, .int .i64 C.b0, .int .i64 C.b1, .int .i64 C.b2, .int .i64 C.b3, .int .i64 C.r, .int .i64 C.wk, .int .i64 C.lg] 25)) := Keep.alloc _ _
  have h1 := light_any _ A C.n cap m f C.b0 C.b1 C.b2 C.b3 C.r C.wk C.lg (h.keep k1)
  rw [show decide (Light C.n m) = true from decide_eq_true hMC.light] at h1
  have hA := awake6_any
  have h2 := fun W (hk : Keep [] w W) => rmay_any W A C.n cap m f C.b0 C.b1 C.b2 C.b3 C.r C.wk C.lg ⟨by omega, by have := ok.lg; omega⟩ (h.keep hk)
  rw [show mayE C.n m f C.b0 C.b1 C.b2 C.b3 C.r C.wk C.lg = 0 from if_pos hMC] at h2
  have h3 := fun W (hk : Keep [] w W) => rmay_any W A C.n cap m f (C.b0 : Int) ((C.b1 : Int) + ((mo : Int) + 1)) (C.b2 : Int) (C.b3 : Int) (C.r : Int) (C.wk : Int) (C.lg : Int) ⟨by omega, by have := ok.lg; omega⟩ (h.keep hk)
  have h4 := fun W (hk : Keep [] w W) => new_yes W A cap C m f ok hks (h.keep hk)
  have H2 := Lib.hid h2
  have H4 := Lib.hid h4
  have hbnd := ok.b1
  clear h2 h4
  by_cases hM : MayC C.n m f (C.b0 : Int) ((C.b1 : Int) + ((mo : Int) + 1)) (C.b2 : Int) (C.b3 : Int) (C.r : Int) (C.wk : Int) (C.lg : Int)
  case neg =>
    rw [show mayE C.n m f (C.b0 : Int) ((C.b1 : Int) + ((mo : Int) + 1)) (C.b2 : Int) (C.b3 : Int) (C.r : Int) (C.wk : Int) (C.lg : Int) = 1 from if_neg hM] at h3
    have H3 := Lib.hid h3
    clear h3 hM hMC hks
    go_enter Try.func8, Try.ntmps8
    go_wp2_with fail
    (with_reducible refine h1.mono ?_)
    rintro e w1 ⟨rfl, k2⟩
    have hb1 := hb.keep k2 (by simp)
    have q0 := (hb1.cell 0).trans (show _ = some (Value.slice A C.n cap) from rfl)
    have q1 := (hb1.cell 1).trans (show _ = some (Value.int .i64 C.b0) from rfl)
    have q2 := (hb1.cell 2).trans (show _ = some (Value.int .i64 C.b1) from rfl)
    have q3 := (hb1.cell 3).trans (show _ = some (Value.int .i64 C.b2) from rfl)
    have q4 := (hb1.cell 4).trans (show _ = some (Value.int .i64 C.b3) from rfl)
    have q5 := (hb1.cell 5).trans (show _ = some (Value.int .i64 C.r) from rfl)
    have q6 := (hb1.cell 6).trans (show _ = some (Value.int .i64 C.wk) from rfl)
    have q7 := (hb1.cell 7).trans (show _ = some (Value.int .i64 C.lg) from rfl)
    clear h1
    go_wp2_with fail
    (with_reducible refine (H2.out _ (k1.trans k2)).mono ?_)
    rintro e w2 ⟨rfl, k3⟩
    have hb2 := hb1.keep k3 (by simp)
    clear q0 q1 q2 q3 q4 q5 q6 q7 H2 hb1
    have q0 := (hb2.cell 0).trans (show _ = some (Value.slice A C.n cap) from rfl)
    have q1 := (hb2.cell 1).trans (show _ = some (Value.int .i64 C.b0) from rfl)
    have q2 := (hb2.cell 2).trans (show _ = some (Value.int .i64 C.b1) from rfl)
    have q3 := (hb2.cell 3).trans (show _ = some (Value.int .i64 C.b2) from rfl)
    have q4 := (hb2.cell 4).trans (show _ = some (Value.int .i64 C.b3) from rfl)
    have q5 := (hb2.cell 5).trans (show _ = some (Value.int .i64 C.r) from rfl)
    have q6 := (hb2.cell 6).trans (show _ = some (Value.int .i64 C.wk) from rfl)
    have q7 := (hb2.cell 7).trans (show _ = some (Value.int .i64 C.lg) from rfl)
    have kk : Keep [] w w2 := (k1.trans k2).trans k3
    go_wp2_with fail
    (with_reducible refine (H3.out _ (kk.trans (Keep.alloc _ _))).mono ?_)
    rintro e w3 ⟨rfl, k4⟩
    have k5 := (kk.trans (Keep.alloc _ _)).trans k4
    go_wp2_with fail
    (with_reducible refine (hA _).mono ?_)
    rintro e w4 ⟨rfl, k6⟩
    go_wp2
    go_ret
    exact ⟨rfl, k5.trans k6⟩
  rw [show mayE C.n m f (C.b0 : Int) ((C.b1 : Int) + ((mo : Int) + 1)) (C.b2 : Int) (C.b3 : Int) (C.r : Int) (C.wk : Int) (C.lg : Int) = 0 from if_pos hM] at h3
  have H3 := Lib.hid h3
  obtain ⟨D, rfl⟩ : ∃ D : Cf, D = ⟨C.n, C.b0, C.b1 + (mo + 1), C.b2, C.b3, C.r, C.wk, C.lg⟩ := ⟨_, rfl⟩
  have okD : (⟨C.n, C.b0, C.b1 + (mo + 1), C.b2, C.b3, C.r, C.wk, C.lg⟩ : Cf).Ok := MayC.okN (m := m) (f := f) (by
    have e : ((C.b1 + (mo + 1) : Nat) : Int) = (C.b1 : Int) + ((mo : Int) + 1) := by omega
    show MayC C.n m f (C.b0 : Int) ((C.b1 + (mo + 1) : Nat) : Int) (C.b2 : Int) (C.b3 : Int) (C.r : Int) (C.wk : Int) (C.lg : Int)
    rw [e]
    exact hM)
  have h5 : ∀ W, Keep [] w W → Calls Try.prog 12 #[.agg #[.slice A C.n cap, .int .i64 C.b0, .int .i64 ((C.b1 : Int) + ((mo : Int) + 1)), .int .i64 C.b2, .int .i64 C.b3, .int .i64 C.r, .int .i64 C.wk, .int .i64 C.lg]] W (LytPost ⟨C.n, C.b0, C.b1 + (mo + 1), C.b2, C.b3, C.r, C.wk, C.lg⟩ m f W) := by
    intro W hk
    have := new_yes W A cap ⟨C.n, C.b0, C.b1 + (mo + 1), C.b2, C.b3, C.r, C.wk, C.lg⟩ m f okD hks (h.keep hk)
    have e : ((C.b1 + (mo + 1) : Nat) : Int) = (C.b1 : Int) + ((mo : Int) + 1) := by omega
    dsimp only at this
    rw [e] at this
    exact this
  have hle : Cf.Le C ⟨C.n, C.b0, C.b1 + (mo + 1), C.b2, C.b3, C.r, C.wk, C.lg⟩ := by constructor <;> dsimp only <;> omega
  generalize hDD : (⟨C.n, C.b0, C.b1 + (mo + 1), C.b2, C.b3, C.r, C.wk, C.lg⟩ : Cf) = D at okD h5 hle
  have H5 := Lib.hid h5
  have OK := Lib.hid ok
  have OKD := Lib.hid okD
  have HL := Lib.hid hle
  clear h3 hM hMC hks h5 okD ok hle hDD
  go_enter Try.func8, Try.ntmps8
  go_wp2_with fail
  (with_reducible refine h1.mono ?_)
  rintro e w1 ⟨rfl, k2⟩
  have hb1 := hb.keep k2 (by simp)
  have q0 := (hb1.cell 0).trans (show _ = some (Value.slice A C.n cap) from rfl)
  have q1 := (hb1.cell 1).trans (show _ = some (Value.int .i64 C.b0) from rfl)
  have q2 := (hb1.cell 2).trans (show _ = some (Value.int .i64 C.b1) from rfl)
  have q3 := (hb1.cell 3).trans (show _ = some (Value.int .i64 C.b2) from rfl)
  have q4 := (hb1.cell 4).trans (show _ = some (Value.int .i64 C.b3) from rfl)
  have q5 := (hb1.cell 5).trans (show _ = some (Value.int .i64 C.r) from rfl)
  have q6 := (hb1.cell 6).trans (show _ = some (Value.int .i64 C.wk) from rfl)
  have q7 := (hb1.cell 7).trans (show _ = some (Value.int .i64 C.lg) from rfl)
  clear h1
  go_wp2_with fail
  (with_reducible refine (H2.out _ (k1.trans k2)).mono ?_)
  rintro e w2 ⟨rfl, k3⟩
  have hb2 := hb1.keep k3 (by simp)
  clear q0 q1 q2 q3 q4 q5 q6 q7 H2 hb1
  have q0 := (hb2.cell 0).trans (show _ = some (Value.slice A C.n cap) from rfl)
  have q1 := (hb2.cell 1).trans (show _ = some (Value.int .i64 C.b0) from rfl)
  have q2 := (hb2.cell 2).trans (show _ = some (Value.int .i64 C.b1) from rfl)
  have q3 := (hb2.cell 3).trans (show _ = some (Value.int .i64 C.b2) from rfl)
  have q4 := (hb2.cell 4).trans (show _ = some (Value.int .i64 C.b3) from rfl)
  have q5 := (hb2.cell 5).trans (show _ = some (Value.int .i64 C.r) from rfl)
  have q6 := (hb2.cell 6).trans (show _ = some (Value.int .i64 C.wk) from rfl)
  have q7 := (hb2.cell 7).trans (show _ = some (Value.int .i64 C.lg) from rfl)
  have kk : Keep [] w w2 := (k1.trans k2).trans k3
  have hbd := Blk.new w2 25 #[.slice A C.n cap, .int .i64 C.b0, .int .i64 ((C.b1 : Int) + ((mo : Int) + 1)), .int .i64 C.b2, .int .i64 C.b3, .int .i64 C.r, .int .i64 C.wk, .int .i64 C.lg]
  have ka : Keep [] w2 (w2.alloc (.cells #[.slice A C.n cap, .int .i64 C.b0, .int .i64 ((C.b1 : Int) + ((mo : Int) + 1)), .int .i64 C.b2, .int .i64 C.b3, .int .i64 C.r, .int .i64 C.wk, .int .i64 C.lg] 25)) := Keep.alloc _ _
  have hb3 := hb2.keep ka (by simp)
  go_wp2_with fail
  (with_reducible refine (H3.out _ (kk.trans ka)).mono ?_)
  rintro e w3 ⟨rfl, k4⟩
  have hb4 := hb3.keep k4 (by simp)
  have hbd4 := hbd.keep k4 (by simp)
  have k5 := (kk.trans ka).trans k4
  clear q0 q1 q2 q3 q4 q5 q6 q7 H3 hb2 hb3 hbd ka kk k4
  have q0 := (hb4.cell 0).trans (show _ = some (Value.slice A C.n cap) from rfl)
  have q1 := (hb4.cell 1).trans (show _ = some (Value.int .i64 C.b0) from rfl)
  have q2 := (hb4.cell 2).trans (show _ = some (Value.int .i64 C.b1) from rfl)
  have q3 := (hb4.cell 3).trans (show _ = some (Value.int .i64 C.b2) from rfl)
  have q4 := (hb4.cell 4).trans (show _ = some (Value.int .i64 C.b3) from rfl)
  have q5 := (hb4.cell 5).trans (show _ = some (Value.int .i64 C.r) from rfl)
  have q6 := (hb4.cell 6).trans (show _ = some (Value.int .i64 C.wk) from rfl)
  have q7 := (hb4.cell 7).trans (show _ = some (Value.int .i64 C.lg) from rfl)
  go_wp2_with fail
  (with_reducible refine (H4.out _ k5).mono ?_)
  rintro e w4 ⟨g, rfl, hL1, k6⟩
  have hbd5 := hbd4.keep k6 (by simp)
  have k7 := k5.trans k6
  clear q0 q1 q2 q3 q4 q5 q6 q7 H4 hb4
  have q0 := (hbd5.cell 0).trans (show _ = some (Value.slice A C.n cap) from rfl)
  have q1 := (hbd5.cell 1).trans (show _ = some (Value.int .i64 C.b0) from rfl)
  have q2 := (hbd5.cell 2).trans (show _ = some (Value.int .i64 ((C.b1 : Int) + ((mo : Int) + 1))) from rfl)
  have q3 := (hbd5.cell 3).trans (show _ = some (Value.int .i64 C.b2) from rfl)
  have q4 := (hbd5.cell 4).trans (show _ = some (Value.int .i64 C.b3) from rfl)
  have q5 := (hbd5.cell 5).trans (show _ = some (Value.int .i64 C.r) from rfl)
  have q6 := (hbd5.cell 6).trans (show _ = some (Value.int .i64 C.wk) from rfl)
  have q7 := (hbd5.cell 7).trans (show _ = some (Value.int .i64 C.lg) from rfl)
  go_wp2_with fail
  (with_reducible refine (H5.out _ k7).mono ?_)
  rintro e w5 ⟨g2, rfl, hL2, k8⟩
  clear q0 q1 q2 q3 q4 q5 q6 q7 H5 hbd5
  have hL1' := hL1.keep k8
  have k9 := k7.trans k8
  have t1 := HL.out.words
  have t2 := HL.out.s0
  have t3 := HL.out.all
  have wC := words_l hL1'
  have wD := words_l hL2
  have aC := fun W hh => at0_l (w := W) (g := g) (C := C) (m := m) (f := f) hh OK.out
  have aD := at0_l hL2 OKD.out
  have AC := Lib.hid aC
  clear aC
  go_wp2_with fail
  (with_reducible refine wD.mono ?_)
  rintro e w' ⟨rfl, rfl⟩
  go_wp2_with fail
  (with_reducible refine wC.mono ?_)
  rintro e w' ⟨rfl, rfl⟩
  go_wp2_with fail
  (with_reducible refine aD.mono ?_)
  rintro e w6 ⟨rfl, d1⟩
  have hL1b := hL1'.keep d1.keep
  have hL2b := hL2.keep d1.keep
  go_wp2_with fail
  (with_reducible refine (AC.out _ hL1b).mono ?_)
  rintro e w7 ⟨rfl, d2⟩
  have hL1c := hL1b.keep d2.keep
  have hL2c := hL2b.keep d2.keep
  have bC := blocks_l hL1c
  have bD := blocks_l hL2c
  have pC := pages_l hL1c OK.out
  have pD := pages_l hL2c OKD.out
  have t4 : (C.all + 7) / 8 ≤ (D.all + 7) / 8 := by omega
  generalize (C.all + 7) / 8 = pc at pC t4
  generalize (D.all + 7) / 8 = pd at pD t4
  go_wp2_with fail
  (with_reducible refine bD.mono ?_)
  rintro e w' ⟨rfl, rfl⟩
  go_wp2_with fail
  (with_reducible refine bC.mono ?_)
  rintro e w' ⟨rfl, rfl⟩
  go_wp2_with fail
  (with_reducible refine pD.mono ?_)
  rintro e w' ⟨rfl, rfl⟩
  go_wp2_with fail
  (with_reducible refine pC.mono ?_)
  rintro e w' ⟨rfl, rfl⟩
  go_wp2_with fail
  (with_reducible refine (hA _).mono ?_)
  rintro e w8 ⟨rfl, kb⟩
  go_wp2
  go_ret
  exact ⟨rfl, ((k9.trans d1.keep).trans d2.keep).trans kb⟩

set_option maxHeartbeats 2000000 in
theorem grows_2 (A : Option Addr) (cap : Nat) (C : Cf) (m : Nat → Nat) (f : Nat → Nat → Int) (a1 a2 : Int) (mo : Nat) (hmo : mo < 9) (w : World) (ok : C.Ok) (hks : MayKs C.n m f) (hMC : MayC C.n m f C.b0 C.b1 C.b2 C.b3 C.r C.wk C.lg) (h : KRow w A C.n cap m f)
    (ek : wrap64 ((IntKind.u64.wrap a1).tmod 6) = 2) (em : wrap64 ((IntKind.u64.wrap a2).tmod 9) = mo) :
    Calls Try.prog 8 #[.agg #[.slice A C.n cap, .int .i64 C.b0, .int .i64 C.b1, .int .i64 C.b2, .int .i64 C.b3, .int .i64 C.r, .int .i64 C.wk, .int .i64 C.lg], .int .i64 a1, .int .i64 a2] w fun e w' => e = .returned (.bool true) ∧ Keep [] w w' := by
  have hb := Blk.new w 25 #[.slice A C.n cap, .int .i64 C.b0, .int .i64 C.b1, .int .i64 C.b2, .int .i64 C.b3, .int .i64 C.r, .int .i64 C.wk, .int .i64 C.lg]
  have k1 : Keep [] w (w.alloc (.cells #[.slice A C.n cap, .int .i64 C.b0, .int .i64 C.b1, .int .i64 C.b2, .int .i64 C.b3, .int .i64 C.r, .int .i64 C.wk, .int .i64 C.lg] 25)) := Keep.alloc _ _
  have h1 := light_any _ A C.n cap m f C.b0 C.b1 C.b2 C.b3 C.r C.wk C.lg (h.keep k1)
  rw [show decide (Light C.n m) = true from decide_eq_true hMC.light] at h1
  have hA := awake6_any
  have h2 := fun W (hk : Keep [] w W) => rmay_any W A C.n cap m f C.b0 C.b1 C.b2 C.b3 C.r C.wk C.lg ⟨by omega, by have := ok.lg; omega⟩ (h.keep hk)
  rw [show mayE C.n m f C.b0 C.b1 C.b2 C.b3 C.r C.wk C.lg = 0 from if_pos hMC] at h2
  have h3 := fun W (hk : Keep [] w W) => rmay_any W A C.n cap m f (C.b0 : Int) (C.b1 : Int) ((C.b2 : Int) + ((mo : Int) + 1)) (C.b3 : Int) (C.r : Int) (C.wk : Int) (C.lg : Int) ⟨by omega, by have := ok.lg; omega⟩ (h.keep hk)
  have h4 := fun W (hk : Keep [] w W) => new_yes W A cap C m f ok hks (h.keep hk)
  have H2 := Lib.hid h2
  have H4 := Lib.hid h4
  have hbnd := ok.b2
  clear h2 h4
  by_cases hM : MayC C.n m f (C.b0 : Int) (C.b1 : Int) ((C.b2 : Int) + ((mo : Int) + 1)) (C.b3 : Int) (C.r : Int) (C.wk : Int) (C.lg : Int)
  case neg =>
    rw [show mayE C.n m f (C.b0 : Int) (C.b1 : Int) ((C.b2 : Int) + ((mo : Int) + 1)) (C.b3 : Int) (C.r : Int) (C.wk : Int) (C.lg : Int) = 1 from if_neg hM] at h3
    have H3 := Lib.hid h3
    clear h3 hM hMC hks
    go_enter Try.func8, Try.ntmps8
    go_wp2_with fail
    (with_reducible refine h1.mono ?_)
    rintro e w1 ⟨rfl, k2⟩
    have hb1 := hb.keep k2 (by simp)
    have q0 := (hb1.cell 0).trans (show _ = some (Value.slice A C.n cap) from rfl)
    have q1 := (hb1.cell 1).trans (show _ = some (Value.int .i64 C.b0) from rfl)
    have q2 := (hb1.cell 2).trans (show _ = some (Value.int .i64 C.b1) from rfl)
    have q3 := (hb1.cell 3).trans (show _ = some (Value.int .i64 C.b2) from rfl)
    have q4 := (hb1.cell 4).trans (show _ = some (Value.int .i64 C.b3) from rfl)
    have q5 := (hb1.cell 5).trans (show _ = some (Value.int .i64 C.r) from rfl)
    have q6 := (hb1.cell 6).trans (show _ = some (Value.int .i64 C.wk) from rfl)
    have q7 := (hb1.cell 7).trans (show _ = some (Value.int .i64 C.lg) from rfl)
    clear h1
    go_wp2_with fail
    (with_reducible refine (H2.out _ (k1.trans k2)).mono ?_)
    rintro e w2 ⟨rfl, k3⟩
    have hb2 := hb1.keep k3 (by simp)
    clear q0 q1 q2 q3 q4 q5 q6 q7 H2 hb1
    have q0 := (hb2.cell 0).trans (show _ = some (Value.slice A C.n cap) from rfl)
    have q1 := (hb2.cell 1).trans (show _ = some (Value.int .i64 C.b0) from rfl)
    have q2 := (hb2.cell 2).trans (show _ = some (Value.int .i64 C.b1) from rfl)
    have q3 := (hb2.cell 3).trans (show _ = some (Value.int .i64 C.b2) from rfl)
    have q4 := (hb2.cell 4).trans (show _ = some (Value.int .i64 C.b3) from rfl)
    have q5 := (hb2.cell 5).trans (show _ = some (Value.int .i64 C.r) from rfl)
    have q6 := (hb2.cell 6).trans (show _ = some (Value.int .i64 C.wk) from rfl)
    have q7 := (hb2.cell 7).trans (show _ = some (Value.int .i64 C.lg) from rfl)
    have kk : Keep [] w w2 := (k1.trans k2).trans k3
    go_wp2_with fail
    (with_reducible refine (H3.out _ (kk.trans (Keep.alloc _ _))).mono ?_)
    rintro e w3 ⟨rfl, k4⟩
    have k5 := (kk.trans (Keep.alloc _ _)).trans k4
    go_wp2_with fail
    (with_reducible refine (hA _).mono ?_)
    rintro e w4 ⟨rfl, k6⟩
    go_wp2
    go_ret
    exact ⟨rfl, k5.trans k6⟩
  rw [show mayE C.n m f (C.b0 : Int) (C.b1 : Int) ((C.b2 : Int) + ((mo : Int) + 1)) (C.b3 : Int) (C.r : Int) (C.wk : Int) (C.lg : Int) = 0 from if_pos hM] at h3
  have H3 := Lib.hid h3
  obtain ⟨D, rfl⟩ : ∃ D : Cf, D = ⟨C.n, C.b0, C.b1, C.b2 + (mo + 1), C.b3, C.r, C.wk, C.lg⟩ := ⟨_, rfl⟩
  have okD : (⟨C.n, C.b0, C.b1, C.b2 + (mo + 1), C.b3, C.r, C.wk, C.lg⟩ : Cf).Ok := MayC.okN (m := m) (f := f) (by
    have e : ((C.b2 + (mo + 1) : Nat) : Int) = (C.b2 : Int) + ((mo : Int) + 1) := by omega
    show MayC C.n m f (C.b0 : Int) (C.b1 : Int) ((C.b2 + (mo + 1) : Nat) : Int) (C.b3 : Int) (C.r : Int) (C.wk : Int) (C.lg : Int)
    rw [e]
    exact hM)
  have h5 : ∀ W, Keep [] w W → Calls Try.prog 12 #[.agg #[.slice A C.n cap, .int .i64 C.b0, .int .i64 C.b1, .int .i64 ((C.b2 : Int) + ((mo : Int) + 1)), .int .i64 C.b3, .int .i64 C.r, .int .i64 C.wk, .int .i64 C.lg]] W (LytPost ⟨C.n, C.b0, C.b1, C.b2 + (mo + 1), C.b3, C.r, C.wk, C.lg⟩ m f W) := by
    intro W hk
    have := new_yes W A cap ⟨C.n, C.b0, C.b1, C.b2 + (mo + 1), C.b3, C.r, C.wk, C.lg⟩ m f okD hks (h.keep hk)
    have e : ((C.b2 + (mo + 1) : Nat) : Int) = (C.b2 : Int) + ((mo : Int) + 1) := by omega
    dsimp only at this
    rw [e] at this
    exact this
  have hle : Cf.Le C ⟨C.n, C.b0, C.b1, C.b2 + (mo + 1), C.b3, C.r, C.wk, C.lg⟩ := by constructor <;> dsimp only <;> omega
  generalize hDD : (⟨C.n, C.b0, C.b1, C.b2 + (mo + 1), C.b3, C.r, C.wk, C.lg⟩ : Cf) = D at okD h5 hle
  have H5 := Lib.hid h5
  have OK := Lib.hid ok
  have OKD := Lib.hid okD
  have HL := Lib.hid hle
  clear h3 hM hMC hks h5 okD ok hle hDD
  go_enter Try.func8, Try.ntmps8
  go_wp2_with fail
  (with_reducible refine h1.mono ?_)
  rintro e w1 ⟨rfl, k2⟩
  have hb1 := hb.keep k2 (by simp)
  have q0 := (hb1.cell 0).trans (show _ = some (Value.slice A C.n cap) from rfl)
  have q1 := (hb1.cell 1).trans (show _ = some (Value.int .i64 C.b0) from rfl)
  have q2 := (hb1.cell 2).trans (show _ = some (Value.int .i64 C.b1) from rfl)
  have q3 := (hb1.cell 3).trans (show _ = some (Value.int .i64 C.b2) from rfl)
  have q4 := (hb1.cell 4).trans (show _ = some (Value.int .i64 C.b3) from rfl)
  have q5 := (hb1.cell 5).trans (show _ = some (Value.int .i64 C.r) from rfl)
  have q6 := (hb1.cell 6).trans (show _ = some (Value.int .i64 C.wk) from rfl)
  have q7 := (hb1.cell 7).trans (show _ = some (Value.int .i64 C.lg) from rfl)
  clear h1
  go_wp2_with fail
  (with_reducible refine (H2.out _ (k1.trans k2)).mono ?_)
  rintro e w2 ⟨rfl, k3⟩
  have hb2 := hb1.keep k3 (by simp)
  clear q0 q1 q2 q3 q4 q5 q6 q7 H2 hb1
  have q0 := (hb2.cell 0).trans (show _ = some (Value.slice A C.n cap) from rfl)
  have q1 := (hb2.cell 1).trans (show _ = some (Value.int .i64 C.b0) from rfl)
  have q2 := (hb2.cell 2).trans (show _ = some (Value.int .i64 C.b1) from rfl)
  have q3 := (hb2.cell 3).trans (show _ = some (Value.int .i64 C.b2) from rfl)
  have q4 := (hb2.cell 4).trans (show _ = some (Value.int .i64 C.b3) from rfl)
  have q5 := (hb2.cell 5).trans (show _ = some (Value.int .i64 C.r) from rfl)
  have q6 := (hb2.cell 6).trans (show _ = some (Value.int .i64 C.wk) from rfl)
  have q7 := (hb2.cell 7).trans (show _ = some (Value.int .i64 C.lg) from rfl)
  have kk : Keep [] w w2 := (k1.trans k2).trans k3
  have hbd := Blk.new w2 25 #[.slice A C.n cap, .int .i64 C.b0, .int .i64 C.b1, .int .i64 ((C.b2 : Int) + ((mo : Int) + 1)), .int .i64 C.b3, .int .i64 C.r, .int .i64 C.wk, .int .i64 C.lg]
  have ka : Keep [] w2 (w2.alloc (.cells #[.slice A C.n cap, .int .i64 C.b0, .int .i64 C.b1, .int .i64 ((C.b2 : Int) + ((mo : Int) + 1)), .int .i64 C.b3, .int .i64 C.r, .int .i64 C.wk, .int .i64 C.lg] 25)) := Keep.alloc _ _
  have hb3 := hb2.keep ka (by simp)
  go_wp2_with fail
  (with_reducible refine (H3.out _ (kk.trans ka)).mono ?_)
  rintro e w3 ⟨rfl, k4⟩
  have hb4 := hb3.keep k4 (by simp)
  have hbd4 := hbd.keep k4 (by simp)
  have k5 := (kk.trans ka).trans k4
  clear q0 q1 q2 q3 q4 q5 q6 q7 H3 hb2 hb3 hbd ka kk k4
  have q0 := (hb4.cell 0).trans (show _ = some (Value.slice A C.n cap) from rfl)
  have q1 := (hb4.cell 1).trans (show _ = some (Value.int .i64 C.b0) from rfl)
  have q2 := (hb4.cell 2).trans (show _ = some (Value.int .i64 C.b1) from rfl)
  have q3 := (hb4.cell 3).trans (show _ = some (Value.int .i64 C.b2) from rfl)
  have q4 := (hb4.cell 4).trans (show _ = some (Value.int .i64 C.b3) from rfl)
  have q5 := (hb4.cell 5).trans (show _ = some (Value.int .i64 C.r) from rfl)
  have q6 := (hb4.cell 6).trans (show _ = some (Value.int .i64 C.wk) from rfl)
  have q7 := (hb4.cell 7).trans (show _ = some (Value.int .i64 C.lg) from rfl)
  go_wp2_with fail
  (with_reducible refine (H4.out _ k5).mono ?_)
  rintro e w4 ⟨g, rfl, hL1, k6⟩
  have hbd5 := hbd4.keep k6 (by simp)
  have k7 := k5.trans k6
  clear q0 q1 q2 q3 q4 q5 q6 q7 H4 hb4
  have q0 := (hbd5.cell 0).trans (show _ = some (Value.slice A C.n cap) from rfl)
  have q1 := (hbd5.cell 1).trans (show _ = some (Value.int .i64 C.b0) from rfl)
  have q2 := (hbd5.cell 2).trans (show _ = some (Value.int .i64 C.b1) from rfl)
  have q3 := (hbd5.cell 3).trans (show _ = some (Value.int .i64 ((C.b2 : Int) + ((mo : Int) + 1))) from rfl)
  have q4 := (hbd5.cell 4).trans (show _ = some (Value.int .i64 C.b3) from rfl)
  have q5 := (hbd5.cell 5).trans (show _ = some (Value.int .i64 C.r) from rfl)
  have q6 := (hbd5.cell 6).trans (show _ = some (Value.int .i64 C.wk) from rfl)
  have q7 := (hbd5.cell 7).trans (show _ = some (Value.int .i64 C.lg) from rfl)
  go_wp2_with fail
  (with_reducible refine (H5.out _ k7).mono ?_)
  rintro e w5 ⟨g2, rfl, hL2, k8⟩
  clear q0 q1 q2 q3 q4 q5 q6 q7 H5 hbd5
  have hL1' := hL1.keep k8
  have k9 := k7.trans k8
  have t1 := HL.out.words
  have t2 := HL.out.s0
  have t3 := HL.out.all
  have wC := words_l hL1'
  have wD := words_l hL2
  have aC := fun W hh => at0_l (w := W) (g := g) (C := C) (m := m) (f := f) hh OK.out
  have aD := at0_l hL2 OKD.out
  have AC := Lib.hid aC
  clear aC
  go_wp2_with fail
  (with_reducible refine wD.mono ?_)
  rintro e w' ⟨rfl, rfl⟩
  go_wp2_with fail
  (with_reducible refine wC.mono ?_)
  rintro e w' ⟨rfl, rfl⟩
  go_wp2_with fail
  (with_reducible refine aD.mono ?_)
  rintro e w6 ⟨rfl, d1⟩
  have hL1b := hL1'.keep d1.keep
  have hL2b := hL2.keep d1.keep
  go_wp2_with fail
  (with_reducible refine (AC.out _ hL1b).mono ?_)
  rintro e w7 ⟨rfl, d2⟩
  have hL1c := hL1b.keep d2.keep
  have hL2c := hL2b.keep d2.keep
  have bC := blocks_l hL1c
  have bD := blocks_l hL2c
  have pC := pages_l hL1c OK.out
  have pD := pages_l hL2c OKD.out
  have t4 : (C.all + 7) / 8 ≤ (D.all + 7) / 8 := by omega
  generalize (C.all + 7) / 8 = pc at pC t4
  generalize (D.all + 7) / 8 = pd at pD t4
  go_wp2_with fail
  (with_reducible refine bD.mono ?_)
  rintro e w' ⟨rfl, rfl⟩
  go_wp2_with fail
  (with_reducible refine bC.mono ?_)
  rintro e w' ⟨rfl, rfl⟩
  go_wp2_with fail
  (with_reducible refine pD.mono ?_)
  rintro e w' ⟨rfl, rfl⟩
  go_wp2_with fail
  (with_reducible refine pC.mono ?_)
  rintro e w' ⟨rfl, rfl⟩
  go_wp2_with fail
  (with_reducible refine (hA _).mono ?_)
  rintro e w8 ⟨rfl, kb⟩
  go_wp2
  go_ret
  exact ⟨rfl, ((k9.trans d1.keep).trans d2.keep).trans kb⟩

set_option maxHeartbeats 2000000 in
theorem grows_3 (A : Option Addr) (cap : Nat) (C : Cf) (m : Nat → Nat) (f : Nat → Nat → Int) (a1 a2 : Int) (mo : Nat) (hmo : mo < 9) (w : World) (ok : C.Ok) (hks : MayKs C.n m f) (hMC : MayC C.n m f C.b0 C.b1 C.b2 C.b3 C.r C.wk C.lg) (h : KRow w A C.n cap m f)
    (ek : wrap64 ((IntKind.u64.wrap a1).tmod 6) = 3) (em : wrap64 ((IntKind.u64.wrap a2).tmod 9) = mo) :
    Calls Try.prog 8 #[.agg #[.slice A C.n cap, .int .i64 C.b0, .int .i64 C.b1, .int .i64 C.b2, .int .i64 C.b3, .int .i64 C.r, .int .i64 C.wk, .int .i64 C.lg], .int .i64 a1, .int .i64 a2] w fun e w' => e = .returned (.bool true) ∧ Keep [] w w' := by
  have hb := Blk.new w 25 #[.slice A C.n cap, .int .i64 C.b0, .int .i64 C.b1, .int .i64 C.b2, .int .i64 C.b3, .int .i64 C.r, .int .i64 C.wk, .int .i64 C.lg]
  have k1 : Keep [] w (w.alloc (.cells #[.slice A C.n cap, .int .i64 C.b0, .int .i64 C.b1, .int .i64 C.b2, .int .i64 C.b3, .int .i64 C.r, .int .i64 C.wk, .int .i64 C.lg] 25)) := Keep.alloc _ _
  have h1 := light_any _ A C.n cap m f C.b0 C.b1 C.b2 C.b3 C.r C.wk C.lg (h.keep k1)
  rw [show decide (Light C.n m) = true from decide_eq_true hMC.light] at h1
  have hA := awake6_any
  have h2 := fun W (hk : Keep [] w W) => rmay_any W A C.n cap m f C.b0 C.b1 C.b2 C.b3 C.r C.wk C.lg ⟨by omega, by have := ok.lg; omega⟩ (h.keep hk)
  rw [show mayE C.n m f C.b0 C.b1 C.b2 C.b3 C.r C.wk C.lg = 0 from if_pos hMC] at h2
  have h3 := fun W (hk : Keep [] w W) => rmay_any W A C.n cap m f (C.b0 : Int) (C.b1 : Int) (C.b2 : Int) ((C.b3 : Int) + ((mo : Int) + 1)) (C.r : Int) (C.wk : Int) (C.lg : Int) ⟨by omega, by have := ok.lg; omega⟩ (h.keep hk)
  have h4 := fun W (hk : Keep [] w W) => new_yes W A cap C m f ok hks (h.keep hk)
  have H2 := Lib.hid h2
  have H4 := Lib.hid h4
  have hbnd := ok.b3
  clear h2 h4
  by_cases hM : MayC C.n m f (C.b0 : Int) (C.b1 : Int) (C.b2 : Int) ((C.b3 : Int) + ((mo : Int) + 1)) (C.r : Int) (C.wk : Int) (C.lg : Int)
  case neg =>
    rw [show mayE C.n m f (C.b0 : Int) (C.b1 : Int) (C.b2 : Int) ((C.b3 : Int) + ((mo : Int) + 1)) (C.r : Int) (C.wk : Int) (C.lg : Int) = 1 from if_neg hM] at h3
    have H3 := Lib.hid h3
    clear h3 hM hMC hks
    go_enter Try.func8, Try.ntmps8
    go_wp2_with fail
    (with_reducible refine h1.mono ?_)
    rintro e w1 ⟨rfl, k2⟩
    have hb1 := hb.keep k2 (by simp)
    have q0 := (hb1.cell 0).trans (show _ = some (Value.slice A C.n cap) from rfl)
    have q1 := (hb1.cell 1).trans (show _ = some (Value.int .i64 C.b0) from rfl)
    have q2 := (hb1.cell 2).trans (show _ = some (Value.int .i64 C.b1) from rfl)
    have q3 := (hb1.cell 3).trans (show _ = some (Value.int .i64 C.b2) from rfl)
    have q4 := (hb1.cell 4).trans (show _ = some (Value.int .i64 C.b3) from rfl)
    have q5 := (hb1.cell 5).trans (show _ = some (Value.int .i64 C.r) from rfl)
    have q6 := (hb1.cell 6).trans (show _ = some (Value.int .i64 C.wk) from rfl)
    have q7 := (hb1.cell 7).trans (show _ = some (Value.int .i64 C.lg) from rfl)
    clear h1
    go_wp2_with fail
    (with_reducible refine (H2.out _ (k1.trans k2)).mono ?_)
    rintro e w2 ⟨rfl, k3⟩
    have hb2 := hb1.keep k3 (by simp)
    clear q0 q1 q2 q3 q4 q5 q6 q7 H2 hb1
    have q0 := (hb2.cell 0).trans (show _ = some (Value.slice A C.n cap) from rfl)
    have q1 := (hb2.cell 1).trans (show _ = some (Value.int .i64 C.b0) from rfl)
    have q2 := (hb2.cell 2).trans (show _ = some (Value.int .i64 C.b1) from rfl)
    have q3 := (hb2.cell 3).trans (show _ = some (Value.int .i64 C.b2) from rfl)
    have q4 := (hb2.cell 4).trans (show _ = some (Value.int .i64 C.b3) from rfl)
    have q5 := (hb2.cell 5).trans (show _ = some (Value.int .i64 C.r) from rfl)
    have q6 := (hb2.cell 6).trans (show _ = some (Value.int .i64 C.wk) from rfl)
    have q7 := (hb2.cell 7).trans (show _ = some (Value.int .i64 C.lg) from rfl)
    have kk : Keep [] w w2 := (k1.trans k2).trans k3
    go_wp2_with fail
    (with_reducible refine (H3.out _ (kk.trans (Keep.alloc _ _))).mono ?_)
    rintro e w3 ⟨rfl, k4⟩
    have k5 := (kk.trans (Keep.alloc _ _)).trans k4
    go_wp2_with fail
    (with_reducible refine (hA _).mono ?_)
    rintro e w4 ⟨rfl, k6⟩
    go_wp2
    go_ret
    exact ⟨rfl, k5.trans k6⟩
  rw [show mayE C.n m f (C.b0 : Int) (C.b1 : Int) (C.b2 : Int) ((C.b3 : Int) + ((mo : Int) + 1)) (C.r : Int) (C.wk : Int) (C.lg : Int) = 0 from if_pos hM] at h3
  have H3 := Lib.hid h3
  obtain ⟨D, rfl⟩ : ∃ D : Cf, D = ⟨C.n, C.b0, C.b1, C.b2, C.b3 + (mo + 1), C.r, C.wk, C.lg⟩ := ⟨_, rfl⟩
  have okD : (⟨C.n, C.b0, C.b1, C.b2, C.b3 + (mo + 1), C.r, C.wk, C.lg⟩ : Cf).Ok := MayC.okN (m := m) (f := f) (by
    have e : ((C.b3 + (mo + 1) : Nat) : Int) = (C.b3 : Int) + ((mo : Int) + 1) := by omega
    show MayC C.n m f (C.b0 : Int) (C.b1 : Int) (C.b2 : Int) ((C.b3 + (mo + 1) : Nat) : Int) (C.r : Int) (C.wk : Int) (C.lg : Int)
    rw [e]
    exact hM)
  have h5 : ∀ W, Keep [] w W → Calls Try.prog 12 #[.agg #[.slice A C.n cap, .int .i64 C.b0, .int .i64 C.b1, .int .i64 C.b2, .int .i64 ((C.b3 : Int) + ((mo : Int) + 1)), .int .i64 C.r, .int .i64 C.wk, .int .i64 C.lg]] W (LytPost ⟨C.n, C.b0, C.b1, C.b2, C.b3 + (mo + 1), C.r, C.wk, C.lg⟩ m f W) := by
    intro W hk
    have := new_yes W A cap ⟨C.n, C.b0, C.b1, C.b2, C.b3 + (mo + 1), C.r, C.wk, C.lg⟩ m f okD hks (h.keep hk)
    have e : ((C.b3 + (mo + 1) : Nat) : Int) = (C.b3 : Int) + ((mo : Int) + 1) := by omega
    dsimp only at this
    rw [e] at this
    exact this
  have hle : Cf.Le C ⟨C.n, C.b0, C.b1, C.b2, C.b3 + (mo + 1), C.r, C.wk, C.lg⟩ := by constructor <;> dsimp only <;> omega
  generalize hDD : (⟨C.n, C.b0, C.b1, C.b2, C.b3 + (mo + 1), C.r, C.wk, C.lg⟩ : Cf) = D at okD h5 hle
  have H5 := Lib.hid h5
  have OK := Lib.hid ok
  have OKD := Lib.hid okD
  have HL := Lib.hid hle
  clear h3 hM hMC hks h5 okD ok hle hDD
  go_enter Try.func8, Try.ntmps8
  go_wp2_with fail
  (with_reducible refine h1.mono ?_)
  rintro e w1 ⟨rfl, k2⟩
  have hb1 := hb.keep k2 (by simp)
  have q0 := (hb1.cell 0).trans (show _ = some (Value.slice A C.n cap) from rfl)
  have q1 := (hb1.cell 1).trans (show _ = some (Value.int .i64 C.b0) from rfl)
  have q2 := (hb1.cell 2).trans (show _ = some (Value.int .i64 C.b1) from rfl)
  have q3 := (hb1.cell 3).trans (show _ = some (Value.int .i64 C.b2) from rfl)
  have q4 := (hb1.cell 4).trans (show _ = some (Value.int .i64 C.b3) from rfl)
  have q5 := (hb1.cell 5).trans (show _ = some (Value.int .i64 C.r) from rfl)
  have q6 := (hb1.cell 6).trans (show _ = some (Value.int .i64 C.wk) from rfl)
  have q7 := (hb1.cell 7).trans (show _ = some (Value.int .i64 C.lg) from rfl)
  clear h1
  go_wp2_with fail
  (with_reducible refine (H2.out _ (k1.trans k2)).mono ?_)
  rintro e w2 ⟨rfl, k3⟩
  have hb2 := hb1.keep k3 (by simp)
  clear q0 q1 q2 q3 q4 q5 q6 q7 H2 hb1
  have q0 := (hb2.cell 0).trans (show _ = some (Value.slice A C.n cap) from rfl)
  have q1 := (hb2.cell 1).trans (show _ = some (Value.int .i64 C.b0) from rfl)
  have q2 := (hb2.cell 2).trans (show _ = some (Value.int .i64 C.b1) from rfl)
  have q3 := (hb2.cell 3).trans (show _ = some (Value.int .i64 C.b2) from rfl)
  have q4 := (hb2.cell 4).trans (show _ = some (Value.int .i64 C.b3) from rfl)
  have q5 := (hb2.cell 5).trans (show _ = some (Value.int .i64 C.r) from rfl)
  have q6 := (hb2.cell 6).trans (show _ = some (Value.int .i64 C.wk) from rfl)
  have q7 := (hb2.cell 7).trans (show _ = some (Value.int .i64 C.lg) from rfl)
  have kk : Keep [] w w2 := (k1.trans k2).trans k3
  have hbd := Blk.new w2 25 #[.slice A C.n cap, .int .i64 C.b0, .int .i64 C.b1, .int .i64 C.b2, .int .i64 ((C.b3 : Int) + ((mo : Int) + 1)), .int .i64 C.r, .int .i64 C.wk, .int .i64 C.lg]
  have ka : Keep [] w2 (w2.alloc (.cells #[.slice A C.n cap, .int .i64 C.b0, .int .i64 C.b1, .int .i64 C.b2, .int .i64 ((C.b3 : Int) + ((mo : Int) + 1)), .int .i64 C.r, .int .i64 C.wk, .int .i64 C.lg] 25)) := Keep.alloc _ _
  have hb3 := hb2.keep ka (by simp)
  go_wp2_with fail
  (with_reducible refine (H3.out _ (kk.trans ka)).mono ?_)
  rintro e w3 ⟨rfl, k4⟩
  have hb4 := hb3.keep k4 (by simp)
  have hbd4 := hbd.keep k4 (by simp)
  have k5 := (kk.trans ka).trans k4
  clear q0 q1 q2 q3 q4 q5 q6 q7 H3 hb2 hb3 hbd ka kk k4
  have q0 := (hb4.cell 0).trans (show _ = some (Value.slice A C.n cap) from rfl)
  have q1 := (hb4.cell 1).trans (show _ = some (Value.int .i64 C.b0) from rfl)
  have q2 := (hb4.cell 2).trans (show _ = some (Value.int .i64 C.b1) from rfl)
  have q3 := (hb4.cell 3).trans (show _ = some (Value.int .i64 C.b2) from rfl)
  have q4 := (hb4.cell 4).trans (show _ = some (Value.int .i64 C.b3) from rfl)
  have q5 := (hb4.cell 5).trans (show _ = some (Value.int .i64 C.r) from rfl)
  have q6 := (hb4.cell 6).trans (show _ = some (Value.int .i64 C.wk) from rfl)
  have q7 := (hb4.cell 7).trans (show _ = some (Value.int .i64 C.lg) from rfl)
  go_wp2_with fail
  (with_reducible refine (H4.out _ k5).mono ?_)
  rintro e w4 ⟨g, rfl, hL1, k6⟩
  have hbd5 := hbd4.keep k6 (by simp)
  have k7 := k5.trans k6
  clear q0 q1 q2 q3 q4 q5 q6 q7 H4 hb4
  have q0 := (hbd5.cell 0).trans (show _ = some (Value.slice A C.n cap) from rfl)
  have q1 := (hbd5.cell 1).trans (show _ = some (Value.int .i64 C.b0) from rfl)
  have q2 := (hbd5.cell 2).trans (show _ = some (Value.int .i64 C.b1) from rfl)
  have q3 := (hbd5.cell 3).trans (show _ = some (Value.int .i64 C.b2) from rfl)
  have q4 := (hbd5.cell 4).trans (show _ = some (Value.int .i64 ((C.b3 : Int) + ((mo : Int) + 1))) from rfl)
  have q5 := (hbd5.cell 5).trans (show _ = some (Value.int .i64 C.r) from rfl)
  have q6 := (hbd5.cell 6).trans (show _ = some (Value.int .i64 C.wk) from rfl)
  have q7 := (hbd5.cell 7).trans (show _ = some (Value.int .i64 C.lg) from rfl)
  go_wp2_with fail
  (with_reducible refine (H5.out _ k7).mono ?_)
  rintro e w5 ⟨g2, rfl, hL2, k8⟩
  clear q0 q1 q2 q3 q4 q5 q6 q7 H5 hbd5
  have hL1' := hL1.keep k8
  have k9 := k7.trans k8
  have t1 := HL.out.words
  have t2 := HL.out.s0
  have t3 := HL.out.all
  have wC := words_l hL1'
  have wD := words_l hL2
  have aC := fun W hh => at0_l (w := W) (g := g) (C := C) (m := m) (f := f) hh OK.out
  have aD := at0_l hL2 OKD.out
  have AC := Lib.hid aC
  clear aC
  go_wp2_with fail
  (with_reducible refine wD.mono ?_)
  rintro e w' ⟨rfl, rfl⟩
  go_wp2_with fail
  (with_reducible refine wC.mono ?_)
  rintro e w' ⟨rfl, rfl⟩
  go_wp2_with fail
  (with_reducible refine aD.mono ?_)
  rintro e w6 ⟨rfl, d1⟩
  have hL1b := hL1'.keep d1.keep
  have hL2b := hL2.keep d1.keep
  go_wp2_with fail
  (with_reducible refine (AC.out _ hL1b).mono ?_)
  rintro e w7 ⟨rfl, d2⟩
  have hL1c := hL1b.keep d2.keep
  have hL2c := hL2b.keep d2.keep
  have bC := blocks_l hL1c
  have bD := blocks_l hL2c
  have pC := pages_l hL1c OK.out
  have pD := pages_l hL2c OKD.out
  have t4 : (C.all + 7) / 8 ≤ (D.all + 7) / 8 := by omega
  generalize (C.all + 7) / 8 = pc at pC t4
  generalize (D.all + 7) / 8 = pd at pD t4
  go_wp2_with fail
  (with_reducible refine bD.mono ?_)
  rintro e w' ⟨rfl, rfl⟩
  go_wp2_with fail
  (with_reducible refine bC.mono ?_)
  rintro e w' ⟨rfl, rfl⟩
  go_wp2_with fail
  (with_reducible refine pD.mono ?_)
  rintro e w' ⟨rfl, rfl⟩
  go_wp2_with fail
  (with_reducible refine pC.mono ?_)
  rintro e w' ⟨rfl, rfl⟩
  go_wp2_with fail
  (with_reducible refine (hA _).mono ?_)
  rintro e w8 ⟨rfl, kb⟩
  go_wp2
  go_ret
  exact ⟨rfl, ((k9.trans d1.keep).trans d2.keep).trans kb⟩

set_option maxHeartbeats 2000000 in
theorem grows_4 (A : Option Addr) (cap : Nat) (C : Cf) (m : Nat → Nat) (f : Nat → Nat → Int) (a1 a2 : Int) (mo : Nat) (hmo : mo < 9) (w : World) (ok : C.Ok) (hks : MayKs C.n m f) (hMC : MayC C.n m f C.b0 C.b1 C.b2 C.b3 C.r C.wk C.lg) (h : KRow w A C.n cap m f)
    (ek : wrap64 ((IntKind.u64.wrap a1).tmod 6) = 4) (em : wrap64 ((IntKind.u64.wrap a2).tmod 9) = mo) :
    Calls Try.prog 8 #[.agg #[.slice A C.n cap, .int .i64 C.b0, .int .i64 C.b1, .int .i64 C.b2, .int .i64 C.b3, .int .i64 C.r, .int .i64 C.wk, .int .i64 C.lg], .int .i64 a1, .int .i64 a2] w fun e w' => e = .returned (.bool true) ∧ Keep [] w w' := by
  have hb := Blk.new w 25 #[.slice A C.n cap, .int .i64 C.b0, .int .i64 C.b1, .int .i64 C.b2, .int .i64 C.b3, .int .i64 C.r, .int .i64 C.wk, .int .i64 C.lg]
  have k1 : Keep [] w (w.alloc (.cells #[.slice A C.n cap, .int .i64 C.b0, .int .i64 C.b1, .int .i64 C.b2, .int .i64 C.b3, .int .i64 C.r, .int .i64 C.wk, .int .i64 C.lg] 25)) := Keep.alloc _ _
  have h1 := light_any _ A C.n cap m f C.b0 C.b1 C.b2 C.b3 C.r C.wk C.lg (h.keep k1)
  rw [show decide (Light C.n m) = true from decide_eq_true hMC.light] at h1
  have hA := awake6_any
  have h2 := fun W (hk : Keep [] w W) => rmay_any W A C.n cap m f C.b0 C.b1 C.b2 C.b3 C.r C.wk C.lg ⟨by omega, by have := ok.lg; omega⟩ (h.keep hk)
  rw [show mayE C.n m f C.b0 C.b1 C.b2 C.b3 C.r C.wk C.lg = 0 from if_pos hMC] at h2
  have h3 := fun W (hk : Keep [] w W) => rmay_any W A C.n cap m f (C.b0 : Int) (C.b1 : Int) (C.b2 : Int) (C.b3 : Int) (C.r : Int) (C.wk : Int) ((C.lg : Int) + 8 * ((mo : Int) + 1)) ⟨by omega, by have := ok.lg; omega⟩ (h.keep hk)
  have h4 := fun W (hk : Keep [] w W) => new_yes W A cap C m f ok hks (h.keep hk)
  have H2 := Lib.hid h2
  have H4 := Lib.hid h4
  have hbnd := ok.lg
  clear h2 h4
  by_cases hM : MayC C.n m f (C.b0 : Int) (C.b1 : Int) (C.b2 : Int) (C.b3 : Int) (C.r : Int) (C.wk : Int) ((C.lg : Int) + 8 * ((mo : Int) + 1))
  case neg =>
    rw [show mayE C.n m f (C.b0 : Int) (C.b1 : Int) (C.b2 : Int) (C.b3 : Int) (C.r : Int) (C.wk : Int) ((C.lg : Int) + 8 * ((mo : Int) + 1)) = 1 from if_neg hM] at h3
    have H3 := Lib.hid h3
    clear h3 hM hMC hks
    go_enter Try.func8, Try.ntmps8
    go_wp2_with fail
    (with_reducible refine h1.mono ?_)
    rintro e w1 ⟨rfl, k2⟩
    have hb1 := hb.keep k2 (by simp)
    have q0 := (hb1.cell 0).trans (show _ = some (Value.slice A C.n cap) from rfl)
    have q1 := (hb1.cell 1).trans (show _ = some (Value.int .i64 C.b0) from rfl)
    have q2 := (hb1.cell 2).trans (show _ = some (Value.int .i64 C.b1) from rfl)
    have q3 := (hb1.cell 3).trans (show _ = some (Value.int .i64 C.b2) from rfl)
    have q4 := (hb1.cell 4).trans (show _ = some (Value.int .i64 C.b3) from rfl)
    have q5 := (hb1.cell 5).trans (show _ = some (Value.int .i64 C.r) from rfl)
    have q6 := (hb1.cell 6).trans (show _ = some (Value.int .i64 C.wk) from rfl)
    have q7 := (hb1.cell 7).trans (show _ = some (Value.int .i64 C.lg) from rfl)
    clear h1
    go_wp2_with fail
    (with_reducible refine (H2.out _ (k1.trans k2)).mono ?_)
    rintro e w2 ⟨rfl, k3⟩
    have hb2 := hb1.keep k3 (by simp)
    clear q0 q1 q2 q3 q4 q5 q6 q7 H2 hb1
    have q0 := (hb2.cell 0).trans (show _ = some (Value.slice A C.n cap) from rfl)
    have q1 := (hb2.cell 1).trans (show _ = some (Value.int .i64 C.b0) from rfl)
    have q2 := (hb2.cell 2).trans (show _ = some (Value.int .i64 C.b1) from rfl)
    have q3 := (hb2.cell 3).trans (show _ = some (Value.int .i64 C.b2) from rfl)
    have q4 := (hb2.cell 4).trans (show _ = some (Value.int .i64 C.b3) from rfl)
    have q5 := (hb2.cell 5).trans (show _ = some (Value.int .i64 C.r) from rfl)
    have q6 := (hb2.cell 6).trans (show _ = some (Value.int .i64 C.wk) from rfl)
    have q7 := (hb2.cell 7).trans (show _ = some (Value.int .i64 C.lg) from rfl)
    have kk : Keep [] w w2 := (k1.trans k2).trans k3
    go_wp2_with fail
    (with_reducible refine (H3.out _ (kk.trans (Keep.alloc _ _))).mono ?_)
    rintro e w3 ⟨rfl, k4⟩
    have k5 := (kk.trans (Keep.alloc _ _)).trans k4
    go_wp2_with fail
    (with_reducible refine (hA _).mono ?_)
    rintro e w4 ⟨rfl, k6⟩
    go_wp2
    go_ret
    exact ⟨rfl, k5.trans k6⟩
  rw [show mayE C.n m f (C.b0 : Int) (C.b1 : Int) (C.b2 : Int) (C.b3 : Int) (C.r : Int) (C.wk : Int) ((C.lg : Int) + 8 * ((mo : Int) + 1)) = 0 from if_pos hM] at h3
  have H3 := Lib.hid h3
  obtain ⟨D, rfl⟩ : ∃ D : Cf, D = ⟨C.n, C.b0, C.b1, C.b2, C.b3, C.r, C.wk, C.lg + 8 * (mo + 1)⟩ := ⟨_, rfl⟩
  have okD : (⟨C.n, C.b0, C.b1, C.b2, C.b3, C.r, C.wk, C.lg + 8 * (mo + 1)⟩ : Cf).Ok := MayC.okN (m := m) (f := f) (by
    have e : ((C.lg + 8 * (mo + 1) : Nat) : Int) = (C.lg : Int) + 8 * ((mo : Int) + 1) := by omega
    show MayC C.n m f (C.b0 : Int) (C.b1 : Int) (C.b2 : Int) (C.b3 : Int) (C.r : Int) (C.wk : Int) ((C.lg + 8 * (mo + 1) : Nat) : Int)
    rw [e]
    exact hM)
  have h5 : ∀ W, Keep [] w W → Calls Try.prog 12 #[.agg #[.slice A C.n cap, .int .i64 C.b0, .int .i64 C.b1, .int .i64 C.b2, .int .i64 C.b3, .int .i64 C.r, .int .i64 C.wk, .int .i64 ((C.lg : Int) + 8 * ((mo : Int) + 1))]] W (LytPost ⟨C.n, C.b0, C.b1, C.b2, C.b3, C.r, C.wk, C.lg + 8 * (mo + 1)⟩ m f W) := by
    intro W hk
    have := new_yes W A cap ⟨C.n, C.b0, C.b1, C.b2, C.b3, C.r, C.wk, C.lg + 8 * (mo + 1)⟩ m f okD hks (h.keep hk)
    have e : ((C.lg + 8 * (mo + 1) : Nat) : Int) = (C.lg : Int) + 8 * ((mo : Int) + 1) := by omega
    dsimp only at this
    rw [e] at this
    exact this
  have hle : Cf.Le C ⟨C.n, C.b0, C.b1, C.b2, C.b3, C.r, C.wk, C.lg + 8 * (mo + 1)⟩ := by constructor <;> dsimp only <;> omega
  generalize hDD : (⟨C.n, C.b0, C.b1, C.b2, C.b3, C.r, C.wk, C.lg + 8 * (mo + 1)⟩ : Cf) = D at okD h5 hle
  have H5 := Lib.hid h5
  have OK := Lib.hid ok
  have OKD := Lib.hid okD
  have HL := Lib.hid hle
  clear h3 hM hMC hks h5 okD ok hle hDD
  go_enter Try.func8, Try.ntmps8
  go_wp2_with fail
  (with_reducible refine h1.mono ?_)
  rintro e w1 ⟨rfl, k2⟩
  have hb1 := hb.keep k2 (by simp)
  have q0 := (hb1.cell 0).trans (show _ = some (Value.slice A C.n cap) from rfl)
  have q1 := (hb1.cell 1).trans (show _ = some (Value.int .i64 C.b0) from rfl)
  have q2 := (hb1.cell 2).trans (show _ = some (Value.int .i64 C.b1) from rfl)
  have q3 := (hb1.cell 3).trans (show _ = some (Value.int .i64 C.b2) from rfl)
  have q4 := (hb1.cell 4).trans (show _ = some (Value.int .i64 C.b3) from rfl)
  have q5 := (hb1.cell 5).trans (show _ = some (Value.int .i64 C.r) from rfl)
  have q6 := (hb1.cell 6).trans (show _ = some (Value.int .i64 C.wk) from rfl)
  have q7 := (hb1.cell 7).trans (show _ = some (Value.int .i64 C.lg) from rfl)
  clear h1
  go_wp2_with fail
  (with_reducible refine (H2.out _ (k1.trans k2)).mono ?_)
  rintro e w2 ⟨rfl, k3⟩
  have hb2 := hb1.keep k3 (by simp)
  clear q0 q1 q2 q3 q4 q5 q6 q7 H2 hb1
  have q0 := (hb2.cell 0).trans (show _ = some (Value.slice A C.n cap) from rfl)
  have q1 := (hb2.cell 1).trans (show _ = some (Value.int .i64 C.b0) from rfl)
  have q2 := (hb2.cell 2).trans (show _ = some (Value.int .i64 C.b1) from rfl)
  have q3 := (hb2.cell 3).trans (show _ = some (Value.int .i64 C.b2) from rfl)
  have q4 := (hb2.cell 4).trans (show _ = some (Value.int .i64 C.b3) from rfl)
  have q5 := (hb2.cell 5).trans (show _ = some (Value.int .i64 C.r) from rfl)
  have q6 := (hb2.cell 6).trans (show _ = some (Value.int .i64 C.wk) from rfl)
  have q7 := (hb2.cell 7).trans (show _ = some (Value.int .i64 C.lg) from rfl)
  have kk : Keep [] w w2 := (k1.trans k2).trans k3
  have hbd := Blk.new w2 25 #[.slice A C.n cap, .int .i64 C.b0, .int .i64 C.b1, .int .i64 C.b2, .int .i64 C.b3, .int .i64 C.r, .int .i64 C.wk, .int .i64 ((C.lg : Int) + 8 * ((mo : Int) + 1))]
  have ka : Keep [] w2 (w2.alloc (.cells #[.slice A C.n cap, .int .i64 C.b0, .int .i64 C.b1, .int .i64 C.b2, .int .i64 C.b3, .int .i64 C.r, .int .i64 C.wk, .int .i64 ((C.lg : Int) + 8 * ((mo : Int) + 1))] 25)) := Keep.alloc _ _
  have hb3 := hb2.keep ka (by simp)
  go_wp2_with fail
  (with_reducible refine (H3.out _ (kk.trans ka)).mono ?_)
  rintro e w3 ⟨rfl, k4⟩
  have hb4 := hb3.keep k4 (by simp)
  have hbd4 := hbd.keep k4 (by simp)
  have k5 := (kk.trans ka).trans k4
  clear q0 q1 q2 q3 q4 q5 q6 q7 H3 hb2 hb3 hbd ka kk k4
  have q0 := (hb4.cell 0).trans (show _ = some (Value.slice A C.n cap) from rfl)
  have q1 := (hb4.cell 1).trans (show _ = some (Value.int .i64 C.b0) from rfl)
  have q2 := (hb4.cell 2).trans (show _ = some (Value.int .i64 C.b1) from rfl)
  have q3 := (hb4.cell 3).trans (show _ = some (Value.int .i64 C.b2) from rfl)
  have q4 := (hb4.cell 4).trans (show _ = some (Value.int .i64 C.b3) from rfl)
  have q5 := (hb4.cell 5).trans (show _ = some (Value.int .i64 C.r) from rfl)
  have q6 := (hb4.cell 6).trans (show _ = some (Value.int .i64 C.wk) from rfl)
  have q7 := (hb4.cell 7).trans (show _ = some (Value.int .i64 C.lg) from rfl)
  go_wp2_with fail
  (with_reducible refine (H4.out _ k5).mono ?_)
  rintro e w4 ⟨g, rfl, hL1, k6⟩
  have hbd5 := hbd4.keep k6 (by simp)
  have k7 := k5.trans k6
  clear q0 q1 q2 q3 q4 q5 q6 q7 H4 hb4
  have q0 := (hbd5.cell 0).trans (show _ = some (Value.slice A C.n cap) from rfl)
  have q1 := (hbd5.cell 1).trans (show _ = some (Value.int .i64 C.b0) from rfl)
  have q2 := (hbd5.cell 2).trans (show _ = some (Value.int .i64 C.b1) from rfl)
  have q3 := (hbd5.cell 3).trans (show _ = some (Value.int .i64 C.b2) from rfl)
  have q4 := (hbd5.cell 4).trans (show _ = some (Value.int .i64 C.b3) from rfl)
  have q5 := (hbd5.cell 5).trans (show _ = some (Value.int .i64 C.r) from rfl)
  have q6 := (hbd5.cell 6).trans (show _ = some (Value.int .i64 C.wk) from rfl)
  have q7 := (hbd5.cell 7).trans (show _ = some (Value.int .i64 ((C.lg : Int) + 8 * ((mo : Int) + 1))) from rfl)
  go_wp2_with fail
  (with_reducible refine (H5.out _ k7).mono ?_)
  rintro e w5 ⟨g2, rfl, hL2, k8⟩
  clear q0 q1 q2 q3 q4 q5 q6 q7 H5 hbd5
  have hL1' := hL1.keep k8
  have k9 := k7.trans k8
  have t1 := HL.out.words
  have t2 := HL.out.s0
  have t3 := HL.out.all
  have wC := words_l hL1'
  have wD := words_l hL2
  have aC := fun W hh => at0_l (w := W) (g := g) (C := C) (m := m) (f := f) hh OK.out
  have aD := at0_l hL2 OKD.out
  have AC := Lib.hid aC
  clear aC
  go_wp2_with fail
  (with_reducible refine wD.mono ?_)
  rintro e w' ⟨rfl, rfl⟩
  go_wp2_with fail
  (with_reducible refine wC.mono ?_)
  rintro e w' ⟨rfl, rfl⟩
  go_wp2_with fail
  (with_reducible refine aD.mono ?_)
  rintro e w6 ⟨rfl, d1⟩
  have hL1b := hL1'.keep d1.keep
  have hL2b := hL2.keep d1.keep
  go_wp2_with fail
  (with_reducible refine (AC.out _ hL1b).mono ?_)
  rintro e w7 ⟨rfl, d2⟩
  have hL1c := hL1b.keep d2.keep
  have hL2c := hL2b.keep d2.keep
  have bC := blocks_l hL1c
  have bD := blocks_l hL2c
  have pC := pages_l hL1c OK.out
  have pD := pages_l hL2c OKD.out
  have t4 : (C.all + 7) / 8 ≤ (D.all + 7) / 8 := by omega
  generalize (C.all + 7) / 8 = pc at pC t4
  generalize (D.all + 7) / 8 = pd at pD t4
  go_wp2_with fail
  (with_reducible refine bD.mono ?_)
  rintro e w' ⟨rfl, rfl⟩
  go_wp2_with fail
  (with_reducible refine bC.mono ?_)
  rintro e w' ⟨rfl, rfl⟩
  go_wp2_with fail
  (with_reducible refine pD.mono ?_)
  rintro e w' ⟨rfl, rfl⟩
  go_wp2_with fail
  (with_reducible refine pC.mono ?_)
  rintro e w' ⟨rfl, rfl⟩
  go_wp2_with fail
  (with_reducible refine (hA _).mono ?_)
  rintro e w8 ⟨rfl, kb⟩
  go_wp2
  go_ret
  exact ⟨rfl, ((k9.trans d1.keep).trans d2.keep).trans kb⟩

set_option maxHeartbeats 2000000 in
theorem grows_5 (A : Option Addr) (cap : Nat) (C : Cf) (m : Nat → Nat) (f : Nat → Nat → Int) (a1 a2 : Int) (mo : Nat) (hmo : mo < 9) (w : World) (ok : C.Ok) (hks : MayKs C.n m f) (hMC : MayC C.n m f C.b0 C.b1 C.b2 C.b3 C.r C.wk C.lg) (h : KRow w A C.n cap m f)
    (ek : wrap64 ((IntKind.u64.wrap a1).tmod 6) = 5) (em : wrap64 ((IntKind.u64.wrap a2).tmod 9) = mo) :
    Calls Try.prog 8 #[.agg #[.slice A C.n cap, .int .i64 C.b0, .int .i64 C.b1, .int .i64 C.b2, .int .i64 C.b3, .int .i64 C.r, .int .i64 C.wk, .int .i64 C.lg], .int .i64 a1, .int .i64 a2] w fun e w' => e = .returned (.bool true) ∧ Keep [] w w' := by
  have hb := Blk.new w 25 #[.slice A C.n cap, .int .i64 C.b0, .int .i64 C.b1, .int .i64 C.b2, .int .i64 C.b3, .int .i64 C.r, .int .i64 C.wk, .int .i64 C.lg]
  have k1 : Keep [] w (w.alloc (.cells #[.slice A C.n cap, .int .i64 C.b0, .int .i64 C.b1, .int .i64 C.b2, .int .i64 C.b3, .int .i64 C.r, .int .i64 C.wk, .int .i64 C.lg] 25)) := Keep.alloc _ _
  have h1 := light_any _ A C.n cap m f C.b0 C.b1 C.b2 C.b3 C.r C.wk C.lg (h.keep k1)
  rw [show decide (Light C.n m) = true from decide_eq_true hMC.light] at h1
  have hA := awake6_any
  have h2 := fun W (hk : Keep [] w W) => rmay_any W A C.n cap m f C.b0 C.b1 C.b2 C.b3 C.r C.wk C.lg ⟨by omega, by have := ok.lg; omega⟩ (h.keep hk)
  rw [show mayE C.n m f C.b0 C.b1 C.b2 C.b3 C.r C.wk C.lg = 0 from if_pos hMC] at h2
  have h3 := fun W (hk : Keep [] w W) => rmay_any W A C.n cap m f (C.b0 : Int) (C.b1 : Int) (C.b2 : Int) (C.b3 : Int) ((C.r : Int) + ((mo : Int) + 1)) (C.wk : Int) (C.lg : Int) ⟨by omega, by have := ok.lg; omega⟩ (h.keep hk)
  have h4 := fun W (hk : Keep [] w W) => new_yes W A cap C m f ok hks (h.keep hk)
  have H2 := Lib.hid h2
  have H4 := Lib.hid h4
  have hbnd := ok.r
  clear h2 h4
  by_cases hM : MayC C.n m f (C.b0 : Int) (C.b1 : Int) (C.b2 : Int) (C.b3 : Int) ((C.r : Int) + ((mo : Int) + 1)) (C.wk : Int) (C.lg : Int)
  case neg =>
    rw [show mayE C.n m f (C.b0 : Int) (C.b1 : Int) (C.b2 : Int) (C.b3 : Int) ((C.r : Int) + ((mo : Int) + 1)) (C.wk : Int) (C.lg : Int) = 1 from if_neg hM] at h3
    have H3 := Lib.hid h3
    clear h3 hM hMC hks
    go_enter Try.func8, Try.ntmps8
    go_wp2_with fail
    (with_reducible refine h1.mono ?_)
    rintro e w1 ⟨rfl, k2⟩
    have hb1 := hb.keep k2 (by simp)
    have q0 := (hb1.cell 0).trans (show _ = some (Value.slice A C.n cap) from rfl)
    have q1 := (hb1.cell 1).trans (show _ = some (Value.int .i64 C.b0) from rfl)
    have q2 := (hb1.cell 2).trans (show _ = some (Value.int .i64 C.b1) from rfl)
    have q3 := (hb1.cell 3).trans (show _ = some (Value.int .i64 C.b2) from rfl)
    have q4 := (hb1.cell 4).trans (show _ = some (Value.int .i64 C.b3) from rfl)
    have q5 := (hb1.cell 5).trans (show _ = some (Value.int .i64 C.r) from rfl)
    have q6 := (hb1.cell 6).trans (show _ = some (Value.int .i64 C.wk) from rfl)
    have q7 := (hb1.cell 7).trans (show _ = some (Value.int .i64 C.lg) from rfl)
    clear h1
    go_wp2_with fail
    (with_reducible refine (H2.out _ (k1.trans k2)).mono ?_)
    rintro e w2 ⟨rfl, k3⟩
    have hb2 := hb1.keep k3 (by simp)
    clear q0 q1 q2 q3 q4 q5 q6 q7 H2 hb1
    have q0 := (hb2.cell 0).trans (show _ = some (Value.slice A C.n cap) from rfl)
    have q1 := (hb2.cell 1).trans (show _ = some (Value.int .i64 C.b0) from rfl)
    have q2 := (hb2.cell 2).trans (show _ = some (Value.int .i64 C.b1) from rfl)
    have q3 := (hb2.cell 3).trans (show _ = some (Value.int .i64 C.b2) from rfl)
    have q4 := (hb2.cell 4).trans (show _ = some (Value.int .i64 C.b3) from rfl)
    have q5 := (hb2.cell 5).trans (show _ = some (Value.int .i64 C.r) from rfl)
    have q6 := (hb2.cell 6).trans (show _ = some (Value.int .i64 C.wk) from rfl)
    have q7 := (hb2.cell 7).trans (show _ = some (Value.int .i64 C.lg) from rfl)
    have kk : Keep [] w w2 := (k1.trans k2).trans k3
    go_wp2_with fail
    (with_reducible refine (H3.out _ (kk.trans (Keep.alloc _ _))).mono ?_)
    rintro e w3 ⟨rfl, k4⟩
    have k5 := (kk.trans (Keep.alloc _ _)).trans k4
    go_wp2_with fail
    (with_reducible refine (hA _).mono ?_)
    rintro e w4 ⟨rfl, k6⟩
    go_wp2
    go_ret
    exact ⟨rfl, k5.trans k6⟩
  rw [show mayE C.n m f (C.b0 : Int) (C.b1 : Int) (C.b2 : Int) (C.b3 : Int) ((C.r : Int) + ((mo : Int) + 1)) (C.wk : Int) (C.lg : Int) = 0 from if_pos hM] at h3
  have H3 := Lib.hid h3
  obtain ⟨D, rfl⟩ : ∃ D : Cf, D = ⟨C.n, C.b0, C.b1, C.b2, C.b3, C.r + (mo + 1), C.wk, C.lg⟩ := ⟨_, rfl⟩
  have okD : (⟨C.n, C.b0, C.b1, C.b2, C.b3, C.r + (mo + 1), C.wk, C.lg⟩ : Cf).Ok := MayC.okN (m := m) (f := f) (by
    have e : ((C.r + (mo + 1) : Nat) : Int) = (C.r : Int) + ((mo : Int) + 1) := by omega
    show MayC C.n m f (C.b0 : Int) (C.b1 : Int) (C.b2 : Int) (C.b3 : Int) ((C.r + (mo + 1) : Nat) : Int) (C.wk : Int) (C.lg : Int)
    rw [e]
    exact hM)
  have h5 : ∀ W, Keep [] w W → Calls Try.prog 12 #[.agg #[.slice A C.n cap, .int .i64 C.b0, .int .i64 C.b1, .int .i64 C.b2, .int .i64 C.b3, .int .i64 ((C.r : Int) + ((mo : Int) + 1)), .int .i64 C.wk, .int .i64 C.lg]] W (LytPost ⟨C.n, C.b0, C.b1, C.b2, C.b3, C.r + (mo + 1), C.wk, C.lg⟩ m f W) := by
    intro W hk
    have := new_yes W A cap ⟨C.n, C.b0, C.b1, C.b2, C.b3, C.r + (mo + 1), C.wk, C.lg⟩ m f okD hks (h.keep hk)
    have e : ((C.r + (mo + 1) : Nat) : Int) = (C.r : Int) + ((mo : Int) + 1) := by omega
    dsimp only at this
    rw [e] at this
    exact this
  have hle : Cf.Le C ⟨C.n, C.b0, C.b1, C.b2, C.b3, C.r + (mo + 1), C.wk, C.lg⟩ := by constructor <;> dsimp only <;> omega
  generalize hDD : (⟨C.n, C.b0, C.b1, C.b2, C.b3, C.r + (mo + 1), C.wk, C.lg⟩ : Cf) = D at okD h5 hle
  have H5 := Lib.hid h5
  have OK := Lib.hid ok
  have OKD := Lib.hid okD
  have HL := Lib.hid hle
  clear h3 hM hMC hks h5 okD ok hle hDD
  go_enter Try.func8, Try.ntmps8
  go_wp2_with fail
  (with_reducible refine h1.mono ?_)
  rintro e w1 ⟨rfl, k2⟩
  have hb1 := hb.keep k2 (by simp)
  have q0 := (hb1.cell 0).trans (show _ = some (Value.slice A C.n cap) from rfl)
  have q1 := (hb1.cell 1).trans (show _ = some (Value.int .i64 C.b0) from rfl)
  have q2 := (hb1.cell 2).trans (show _ = some (Value.int .i64 C.b1) from rfl)
  have q3 := (hb1.cell 3).trans (show _ = some (Value.int .i64 C.b2) from rfl)
  have q4 := (hb1.cell 4).trans (show _ = some (Value.int .i64 C.b3) from rfl)
  have q5 := (hb1.cell 5).trans (show _ = some (Value.int .i64 C.r) from rfl)
  have q6 := (hb1.cell 6).trans (show _ = some (Value.int .i64 C.wk) from rfl)
  have q7 := (hb1.cell 7).trans (show _ = some (Value.int .i64 C.lg) from rfl)
  clear h1
  go_wp2_with fail
  (with_reducible refine (H2.out _ (k1.trans k2)).mono ?_)
  rintro e w2 ⟨rfl, k3⟩
  have hb2 := hb1.keep k3 (by simp)
  clear q0 q1 q2 q3 q4 q5 q6 q7 H2 hb1
  have q0 := (hb2.cell 0).trans (show _ = some (Value.slice A C.n cap) from rfl)
  have q1 := (hb2.cell 1).trans (show _ = some (Value.int .i64 C.b0) from rfl)
  have q2 := (hb2.cell 2).trans (show _ = some (Value.int .i64 C.b1) from rfl)
  have q3 := (hb2.cell 3).trans (show _ = some (Value.int .i64 C.b2) from rfl)
  have q4 := (hb2.cell 4).trans (show _ = some (Value.int .i64 C.b3) from rfl)
  have q5 := (hb2.cell 5).trans (show _ = some (Value.int .i64 C.r) from rfl)
  have q6 := (hb2.cell 6).trans (show _ = some (Value.int .i64 C.wk) from rfl)
  have q7 := (hb2.cell 7).trans (show _ = some (Value.int .i64 C.lg) from rfl)
  have kk : Keep [] w w2 := (k1.trans k2).trans k3
  have hbd := Blk.new w2 25 #[.slice A C.n cap, .int .i64 C.b0, .int .i64 C.b1, .int .i64 C.b2, .int .i64 C.b3, .int .i64 ((C.r : Int) + ((mo : Int) + 1)), .int .i64 C.wk, .int .i64 C.lg]
  have ka : Keep [] w2 (w2.alloc (.cells #[.slice A C.n cap, .int .i64 C.b0, .int .i64 C.b1, .int .i64 C.b2, .int .i64 C.b3, .int .i64 ((C.r : Int) + ((mo : Int) + 1)), .int .i64 C.wk, .int .i64 C.lg] 25)) := Keep.alloc _ _
  have hb3 := hb2.keep ka (by simp)
  go_wp2_with fail
  (with_reducible refine (H3.out _ (kk.trans ka)).mono ?_)
  rintro e w3 ⟨rfl, k4⟩
  have hb4 := hb3.keep k4 (by simp)
  have hbd4 := hbd.keep k4 (by simp)
  have k5 := (kk.trans ka).trans k4
  clear q0 q1 q2 q3 q4 q5 q6 q7 H3 hb2 hb3 hbd ka kk k4
  have q0 := (hb4.cell 0).trans (show _ = some (Value.slice A C.n cap) from rfl)
  have q1 := (hb4.cell 1).trans (show _ = some (Value.int .i64 C.b0) from rfl)
  have q2 := (hb4.cell 2).trans (show _ = some (Value.int .i64 C.b1) from rfl)
  have q3 := (hb4.cell 3).trans (show _ = some (Value.int .i64 C.b2) from rfl)
  have q4 := (hb4.cell 4).trans (show _ = some (Value.int .i64 C.b3) from rfl)
  have q5 := (hb4.cell 5).trans (show _ = some (Value.int .i64 C.r) from rfl)
  have q6 := (hb4.cell 6).trans (show _ = some (Value.int .i64 C.wk) from rfl)
  have q7 := (hb4.cell 7).trans (show _ = some (Value.int .i64 C.lg) from rfl)
  go_wp2_with fail
  (with_reducible refine (H4.out _ k5).mono ?_)
  rintro e w4 ⟨g, rfl, hL1, k6⟩
  have hbd5 := hbd4.keep k6 (by simp)
  have k7 := k5.trans k6
  clear q0 q1 q2 q3 q4 q5 q6 q7 H4 hb4
  have q0 := (hbd5.cell 0).trans (show _ = some (Value.slice A C.n cap) from rfl)
  have q1 := (hbd5.cell 1).trans (show _ = some (Value.int .i64 C.b0) from rfl)
  have q2 := (hbd5.cell 2).trans (show _ = some (Value.int .i64 C.b1) from rfl)
  have q3 := (hbd5.cell 3).trans (show _ = some (Value.int .i64 C.b2) from rfl)
  have q4 := (hbd5.cell 4).trans (show _ = some (Value.int .i64 C.b3) from rfl)
  have q5 := (hbd5.cell 5).trans (show _ = some (Value.int .i64 ((C.r : Int) + ((mo : Int) + 1))) from rfl)
  have q6 := (hbd5.cell 6).trans (show _ = some (Value.int .i64 C.wk) from rfl)
  have q7 := (hbd5.cell 7).trans (show _ = some (Value.int .i64 C.lg) from rfl)
  go_wp2_with fail
  (with_reducible refine (H5.out _ k7).mono ?_)
  rintro e w5 ⟨g2, rfl, hL2, k8⟩
  clear q0 q1 q2 q3 q4 q5 q6 q7 H5 hbd5
  have hL1' := hL1.keep k8
  have k9 := k7.trans k8
  have t1 := HL.out.words
  have t2 := HL.out.s0
  have t3 := HL.out.all
  have wC := words_l hL1'
  have wD := words_l hL2
  have aC := fun W hh => at0_l (w := W) (g := g) (C := C) (m := m) (f := f) hh OK.out
  have aD := at0_l hL2 OKD.out
  have AC := Lib.hid aC
  clear aC
  go_wp2_with fail
  (with_reducible refine wD.mono ?_)
  rintro e w' ⟨rfl, rfl⟩
  go_wp2_with fail
  (with_reducible refine wC.mono ?_)
  rintro e w' ⟨rfl, rfl⟩
  go_wp2_with fail
  (with_reducible refine aD.mono ?_)
  rintro e w6 ⟨rfl, d1⟩
  have hL1b := hL1'.keep d1.keep
  have hL2b := hL2.keep d1.keep
  go_wp2_with fail
  (with_reducible refine (AC.out _ hL1b).mono ?_)
  rintro e w7 ⟨rfl, d2⟩
  have hL1c := hL1b.keep d2.keep
  have hL2c := hL2b.keep d2.keep
  have bC := blocks_l hL1c
  have bD := blocks_l hL2c
  have pC := pages_l hL1c OK.out
  have pD := pages_l hL2c OKD.out
  have t4 : (C.all + 7) / 8 ≤ (D.all + 7) / 8 := by omega
  generalize (C.all + 7) / 8 = pc at pC t4
  generalize (D.all + 7) / 8 = pd at pD t4
  go_wp2_with fail
  (with_reducible refine bD.mono ?_)
  rintro e w' ⟨rfl, rfl⟩
  go_wp2_with fail
  (with_reducible refine bC.mono ?_)
  rintro e w' ⟨rfl, rfl⟩
  go_wp2_with fail
  (with_reducible refine pD.mono ?_)
  rintro e w' ⟨rfl, rfl⟩
  go_wp2_with fail
  (with_reducible refine pC.mono ?_)
  rintro e w' ⟨rfl, rfl⟩
  go_wp2_with fail
  (with_reducible refine (hA _).mono ?_)
  rintro e w8 ⟨rfl, kb⟩
  go_wp2
  go_ret
  exact ⟨rfl, ((k9.trans d1.keep).trans d2.keep).trans kb⟩

set_option maxHeartbeats 2000000 in
theorem walk_grows (A : Option Addr) (n cap : Nat) (m : Nat → Nat) (f : Nat → Nat → Int) (b0 b1 b2 b3 r wk lg : Int) (a1 a2 : Int) (w : World) (hlg : -9223372036854775808 ≤ lg ∧ lg ≤ 9223372036854775807) (h : KRow w A n cap m f) :
    Calls Try.prog 8 #[.agg #[.slice A n cap, .int .i64 b0, .int .i64 b1, .int .i64 b2, .int .i64 b3, .int .i64 r, .int .i64 wk, .int .i64 lg], .int .i64 a1, .int .i64 a2] w fun e w' => e = .returned (.bool true) ∧ Keep [] w w' := by
  have hb := Blk.new w 25 #[.slice A n cap, .int .i64 b0, .int .i64 b1, .int .i64 b2, .int .i64 b3, .int .i64 r, .int .i64 wk, .int .i64 lg]
  have k1 : Keep [] w (w.alloc (.cells #[.slice A n cap, .int .i64 b0, .int .i64 b1, .int .i64 b2, .int .i64 b3, .int .i64 r, .int .i64 wk, .int .i64 lg] 25)) := Keep.alloc _ _
  have h1 := light_any _ A n cap m f b0 b1 b2 b3 r wk lg (h.keep k1)
  have hA := awake6_any
  by_cases hM : MayC n m f b0 b1 b2 b3 r wk lg
  case pos =>
    have hM' := hM
    obtain ⟨C, ok, rfl, rfl, rfl, rfl, rfl, rfl, rfl, rfl⟩ := hM.cf
    obtain ⟨k, hk, ek⟩ := slot_mod a1 6 (by decide) (by decide)
    obtain ⟨mo, hmo, em⟩ := slot_mod a2 9 (by decide) (by decide)
    match k, hk with
    | 0, _ => exact grows_0 A cap C m f a1 a2 mo hmo w ok hM'.1 hM' h ek em
    | 1, _ => exact grows_1 A cap C m f a1 a2 mo hmo w ok hM'.1 hM' h ek em
    | 2, _ => exact grows_2 A cap C m f a1 a2 mo hmo w ok hM'.1 hM' h ek em
    | 3, _ => exact grows_3 A cap C m f a1 a2 mo hmo w ok hM'.1 hM' h ek em
    | 4, _ => exact grows_4 A cap C m f a1 a2 mo hmo w ok hM'.1 hM' h ek em
    | 5, _ => exact grows_5 A cap C m f a1 a2 mo hmo w ok hM'.1 hM' h ek em
  by_cases c1 : Light n m
  case neg =>
    rw [show decide (Light n m) = false from decide_eq_false c1] at h1
    go_enter Try.func8, Try.ntmps8
    go_wp2_with fail
    (with_reducible refine h1.mono ?_)
    rintro e w1 ⟨rfl, k2⟩
    go_wp2_with fail
    (with_reducible refine (hA _).mono ?_)
    rintro e w2 ⟨rfl, k3⟩
    go_wp2
    go_ret
    exact ⟨rfl, (k1.trans k2).trans k3⟩
  rw [show decide (Light n m) = true from decide_eq_true c1] at h1
  have h2 := fun W (hk : Keep [] w W) => rmay_any W A n cap m f b0 b1 b2 b3 r wk lg hlg (h.keep hk)
  rw [show mayE n m f b0 b1 b2 b3 r wk lg = 1 from if_neg hM] at h2
  have H2 := Lib.hid h2
  clear h2
  go_enter Try.func8, Try.ntmps8
  go_wp2_with fail
  (with_reducible refine h1.mono ?_)
  rintro e w1 ⟨rfl, k2⟩
  have hb1 := hb.keep k2 (by simp)
  have q0 := (hb1.cell 0).trans (show _ = some (Value.slice A n cap) from rfl)
  have q1 := (hb1.cell 1).trans (show _ = some (Value.int .i64 b0) from rfl)
  have q2 := (hb1.cell 2).trans (show _ = some (Value.int .i64 b1) from rfl)
  have q3 := (hb1.cell 3).trans (show _ = some (Value.int .i64 b2) from rfl)
  have q4 := (hb1.cell 4).trans (show _ = some (Value.int .i64 b3) from rfl)
  have q5 := (hb1.cell 5).trans (show _ = some (Value.int .i64 r) from rfl)
  have q6 := (hb1.cell 6).trans (show _ = some (Value.int .i64 wk) from rfl)
  have q7 := (hb1.cell 7).trans (show _ = some (Value.int .i64 lg) from rfl)
  go_wp2_with fail
  (with_reducible refine (H2.out _ (k1.trans k2)).mono ?_)
  rintro e w2 ⟨rfl, k3⟩
  go_wp2_with fail
  (with_reducible refine (hA _).mono ?_)
  rintro e w3 ⟨rfl, k4⟩
  go_wp2
  go_ret
  exact ⟨rfl, ((k1.trans k2).trans k3).trans k4⟩
end Go.Proofs.Ytihfejbkojhkaaa
