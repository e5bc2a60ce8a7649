/-
  LayoutTold's walk. No conditions but what came in.
-/
import Derived.Test.YtihfejbkojhkaaaTold
import Derived.Test.YtihfejbkojhkaaaLps2
import Derived.Test.YtihfejbkojhkaaaR64
import Derived.Test.YtihfejbkojhkaaaLawk
namespace Go.Proofs.Ytihfejbkojhkaaa
open Go.RowKit Go.Flo Go.Bit
set_option maxRecDepth 100000

set_option maxHeartbeats 4000000 in
theorem walk_told (A : Option Addr) (n cap : Nat) (m : Nat → Nat) (f : Nat → Nat → Int) (b0 b1 b2 b3 r wk lg : Int) (bit : Int) (w : World) (hlg : -9223372036854775808 ≤ lg ∧ lg ≤ 9223372036854775807) (h : KRow w A n cap m f) :
    Calls Try.prog 9 #[.agg #[.slice A n cap, .int .i64 b0, .int .i64 b1, .int .i64 b2, .int .i64 b3, .int .i64 r, .int .i64 wk, .int .i64 lg], .int .i64 bit] w fun e w' => e = .returned (.bool true) ∧ Keep [] w w' := by
  have hb := Blk.new w 25 #[.slice A n cap, .int .i64 b0, .int .i64 b1, .int .i64 b2, .int .i64 b3, .int .i64 r, .int .i64 wk, .int .i64 lg]
  have k1 : Keep [] w (w.alloc (.cells #[.slice A n cap, .int .i64 b0, .int .i64 b1, .int .i64 b2, .int .i64 b3, .int .i64 r, .int .i64 wk, .int .i64 lg] 25)) := Keep.alloc _ _
  have h1 := light_any _ A n cap m f b0 b1 b2 b3 r wk lg (h.keep k1)
  have hA := awake6_any
  by_cases c1 : Light n m
  case neg =>
    rw [show decide (Light n m) = false from decide_eq_false c1] at h1
    go_enter Try.func9, Try.ntmps9
    go_wp2_with fail
    (with_reducible refine h1.mono ?_)
    rintro e w1 ⟨rfl, k2⟩
    go_wp2_with fail
    (with_reducible refine (hA _).mono ?_)
    rintro e w2 ⟨rfl, k3⟩
    go_wp2
    go_ret
    exact ⟨rfl, (k1.trans k2).trans k3⟩
  rw [show decide (Light n m) = true from decide_eq_true c1] at h1
  have h2 := fun W (hk : Keep [] w W) => rmay_any W A n cap m f b0 b1 b2 b3 r wk lg hlg (h.keep hk)
  by_cases hM : MayC n m f b0 b1 b2 b3 r wk lg
  case neg =>
    rw [show mayE n m f b0 b1 b2 b3 r wk lg = 1 from if_neg hM] at h2
    have H2 := Lib.hid h2
    clear h2
    go_enter Try.func9, Try.ntmps9
    go_wp2_with fail
    (with_reducible refine h1.mono ?_)
    rintro e w1 ⟨rfl, k2⟩
    have hb1 := hb.keep k2 (by simp)
    have q0 := (hb1.cell 0).trans (show _ = some (Value.slice A n cap) from rfl)
    have q1 := (hb1.cell 1).trans (show _ = some (Value.int .i64 b0) from rfl)
    have q2 := (hb1.cell 2).trans (show _ = some (Value.int .i64 b1) from rfl)
    have q3 := (hb1.cell 3).trans (show _ = some (Value.int .i64 b2) from rfl)
    have q4 := (hb1.cell 4).trans (show _ = some (Value.int .i64 b3) from rfl)
    have q5 := (hb1.cell 5).trans (show _ = some (Value.int .i64 r) from rfl)
    have q6 := (hb1.cell 6).trans (show _ = some (Value.int .i64 wk) from rfl)
    have q7 := (hb1.cell 7).trans (show _ = some (Value.int .i64 lg) from rfl)
    go_wp2_with fail
    (with_reducible refine (H2.out _ (k1.trans k2)).mono ?_)
    rintro e w2 ⟨rfl, k3⟩
    go_wp2_with fail
    (with_reducible refine (hA _).mono ?_)
    rintro e w3 ⟨rfl, k4⟩
    go_wp2
    go_ret
    exact ⟨rfl, ((k1.trans k2).trans k3).trans k4⟩
  rw [show mayE n m f b0 b1 b2 b3 r wk lg = 0 from if_pos hM] at h2
  have hks := hM.1
  obtain ⟨C, ok, rfl, rfl, rfl, rfl, rfl, rfl, rfl, rfl⟩ := hM.cf
  have h3 := fun W (hk : Keep [] w W) => new_yes W A cap C m f ok hks (h.keep hk)
  have H2 := Lib.hid h2
  have H3 := Lib.hid h3
  have HK0 := Lib.hid h
  have HKS := Lib.hid hks
  clear h2 h3 hM hks c1 h
  go_enter Try.func9, Try.ntmps9
  go_wp2_with fail
  (with_reducible refine h1.mono ?_)
  rintro e w1 ⟨rfl, k2⟩
  have hb1 := hb.keep k2 (by simp)
  have kk1 := k1.trans k2
  clear h1 k1 k2 hb
  have q0 := (hb1.cell 0).trans (show _ = some (Value.slice A C.n cap) from rfl)
  have q1 := (hb1.cell 1).trans (show _ = some (Value.int .i64 C.b0) from rfl)
  have q2 := (hb1.cell 2).trans (show _ = some (Value.int .i64 C.b1) from rfl)
  have q3 := (hb1.cell 3).trans (show _ = some (Value.int .i64 C.b2) from rfl)
  have q4 := (hb1.cell 4).trans (show _ = some (Value.int .i64 C.b3) from rfl)
  have q5 := (hb1.cell 5).trans (show _ = some (Value.int .i64 C.r) from rfl)
  have q6 := (hb1.cell 6).trans (show _ = some (Value.int .i64 C.wk) from rfl)
  have q7 := (hb1.cell 7).trans (show _ = some (Value.int .i64 C.lg) from rfl)
  go_wp2_with fail
  (with_reducible refine (H2.out _ kk1).mono ?_)
  rintro e w2 ⟨rfl, k3⟩
  have hb2 := hb1.keep k3 (by simp)
  have kk2 := kk1.trans k3
  clear q0 q1 q2 q3 q4 q5 q6 q7 hb1 kk1 k3
  have q0 := (hb2.cell 0).trans (show _ = some (Value.slice A C.n cap) from rfl)
  have q1 := (hb2.cell 1).trans (show _ = some (Value.int .i64 C.b0) from rfl)
  have q2 := (hb2.cell 2).trans (show _ = some (Value.int .i64 C.b1) from rfl)
  have q3 := (hb2.cell 3).trans (show _ = some (Value.int .i64 C.b2) from rfl)
  have q4 := (hb2.cell 4).trans (show _ = some (Value.int .i64 C.b3) from rfl)
  have q5 := (hb2.cell 5).trans (show _ = some (Value.int .i64 C.r) from rfl)
  have q6 := (hb2.cell 6).trans (show _ = some (Value.int .i64 C.wk) from rfl)
  have q7 := (hb2.cell 7).trans (show _ = some (Value.int .i64 C.lg) from rfl)
  go_wp2_with fail
  (with_reducible refine (H3.out _ kk2).mono ?_)
  rintro e w3 ⟨g, rfl, hL, k3⟩
  have hb3 := hb2.keep k3 (by simp)
  have kk3 := kk2.trans k3
  clear q0 q1 q2 q3 q4 q5 q6 q7 hb2 kk2 k3 H2 H3
  have hsup := super_l hL ok HKS.out
  have hn9 := ok.n
  obtain ⟨L, hLe⟩ : ∃ L, 9 + C.n = L := ⟨_, rfl⟩
  unfold SupPost at hsup
  rw [hLe] at hsup
  have hL1 : 9 ≤ L := by omega
  have hL2 : L ≤ 25 := by omega
  obtain ⟨t, ht, hmod⟩ := mod_any bit (64 * L) (by omega) (by omega)
  rw [show ((64 * L : Nat) : Int) = 64 * (L : Int) by omega] at hmod
  obtain ⟨k, hkk⟩ : ∃ k, t / 64 = k := ⟨_, rfl⟩
  obtain ⟨pp, hpp⟩ : ∃ pp, t % 64 = pp := ⟨_, rfl⟩
  have hkL : k < L := by omega
  have hpL : pp < 64 := by omega
  have hk1 : (t : Int) / 64 = (k : Int) := by omega
  have hp1 : (t : Int) % 64 = (pp : Int) := by omega
  have hp2 : (t : Int).tmod 64 = (pp : Int) := by rw [show ((t : Int).tmod 64) = ((t % 64 : Nat) : Int) from rfl, hpp]
  have hk2 : (t : Int).tdiv 64 = (k : Int) := by rw [show ((t : Int).tdiv 64) = ((t / 64 : Nat) : Int) from rfl, hkk]
  have t64 : t < 1600 := by omega
  have HB := Lib.hid hb3
  have HLE := Lib.hid hLe
  have OK := Lib.hid ok
  clear hkk hpp hb3 hL ok hLe
  go_wp2_with fail
  (with_reducible refine hsup.mono ?_)
  rintro e w4 ⟨gs, caps, rfl, hrow, hgs, k4⟩
  have x0 := supW_lt OK.out HKS.out (j := k) (by have := HLE.out; omega)
  have yk := hrow.cell hkL
  have uk := hrow.frozen k
  have hcl := hrow.cap_le
  have hcm : caps ≤ 9223372036854775807 := by have := hrow.cap_max; unfold maxLen at this; omega
  have HX := Lib.hid (show supW C m f k = supW C m f k from rfl)
  unfold supV at yk
  obtain ⟨x, hx⟩ : ∃ x, supW C m f k = x := ⟨_, rfl⟩
  rw [hx] at yk x0
  have HXE := Lib.hid hx
  have HR := Lib.hid hrow
  clear hx hrow hsup
  obtain ⟨y, hy, hyx, hy64⟩ := xor_turn x pp x0 hpL
  have hxor : bits BinOp.xor IntKind.u64 (x : Int) (IntKind.u64.wrap (2 ^ pp)) = (y : Int) := by
    rw [show IntKind.u64.wrap (2 ^ pp) = ((2 ^ pp : Nat) : Int) by have := shl_field 1 pp 1 (by omega) (by omega); simpa using this, bits_xor_u64_nat _ _ x0 (by have : 2 ^ pp < 2 ^ 64 := Nat.pow_lt_pow_right (by omega) hpL; simpa using this), hy]
  have hxor2 : bits BinOp.xor IntKind.u64 (x : Int) (IntKind.u64.wrap (1 * 2 ^ pp)) = (y : Int) := by rw [Int.one_mul]; exact hxor
  clear hy
  go_upto_region 11 with fail
  refine gen_world (R := fun wx => wx = w4.setCell ⟨gs, k, none⟩ (.int .u64 (y : Nat))) rfl ?_
  intro w5 hw5
  have hs0 : w.heap.size < w3.heap.size := HB.out.lt
  have hrow5 : Row w5 51 gs L caps (fun j => .int .u64 (turnW C m f k y j : Nat)) := by
    rw [hw5]
    refine (HR.out.set_ k _).congr (fun j hj => ?_)
    unfold turnW
    by_cases e : j = k
    · simp [e]
    · have : j < 9 + C.n := by have := HLE.out; omega
      simp [e, this, supV]
  have hwrd := Wrd.row hrow5 (fun j => by
    unfold turnW
    split
    · exact hy64
    · split
      · rename_i hj; exact supW_lt OK.out HKS.out hj
      · omega)
  have ks : Keep [gs] w4 w5 := by rw [hw5]; exact Keep.setCell _ _ (by simp) _
  have kk5 : Keep [] w w5 := (kk3.trans k4).since ks (by have := kk3.size; intro q hq; simp at hq; omega)
  have hb5 := (HB.out.keep k4 (by simp)).keep ks (by simp; omega)
  have hpar := parse_any w5 (some ⟨gs, 0, none⟩) L caps _ hwrd
  have HNE := Lib.hid (show ∀ hP : POk L (turnW C m f k y), _ from fun hP => told (C := C) (m := m) (f := f) (k := k) (by have := HLE.out; omega) (by unfold turnW; simp [HXE.out]; exact hyx) (fun j hj hl => by unfold turnW; simp [hj, hl]) hP)
  unfold PPost at hpar
  clear hw5 hrow5 hwrd ks yk uk HR HB hxor hxor2 hmod hk1 hk2 hp1 hp2 HX HXE k4 kk3
  go_wp2_with fail
  (with_reducible refine hpar.mono ?_)
  rintro e w6 (⟨hP, A2, cap2, rfl, hK2, k6⟩ | ⟨hP, rfl, k6⟩)
  case inr =>
    have kf : Keep [] w6 (w6.alloc (.cells #[.slice none 0 0, .int .i64 0, .int .i64 0, .int .i64 0, .int .i64 0, .int .i64 0, .int .i64 0, .int .i64 0] 25)) := Keep.alloc _ _
    go_wp2_with fail
    (with_reducible refine (hA _).mono ?_)
    rintro e w7 ⟨rfl, k7⟩
    go_wp2
    go_ret
    exact ⟨rfl, ((kk5.trans k6).trans kf).trans k7⟩
  have hNS := HNE.out hP
  have hsc := fun W (hk : Keep [] w6 W) => sameConfig_any W A A2 C.n cap _ cap2 m _ f _ C.b0 C.b1 C.b2 C.b3 C.r C.wk C.lg (turnW C m f k y 4 : Nat) (turnW C m f k y 5 : Nat) (turnW C m f k y 6 : Nat) (turnW C m f k y 7 : Nat) (turnW C m f k y 1 : Nat) (turnW C m f k y 2 : Nat) (turnW C m f k y 3 : Nat) (HK0.out.keep ((kk5.trans k6).trans hk)) (hK2.keep hk)
  rw [show decide (SameC _ _ _ _ _ _ _ _ _ _ _ _ _ _ _ _ _ _ _ _) = false from decide_eq_false hNS] at hsc
  have HSC := Lib.hid hsc
  have hb6 := hb5.keep k6 (by simp)
  have hl6 := hb6.lt
  have q0 := (hb6.cell 0).trans (show _ = some (Value.slice A C.n cap) from rfl)
  have q1 := (hb6.cell 1).trans (show _ = some (Value.int .i64 C.b0) from rfl)
  have q2 := (hb6.cell 2).trans (show _ = some (Value.int .i64 C.b1) from rfl)
  have q3 := (hb6.cell 3).trans (show _ = some (Value.int .i64 C.b2) from rfl)
  have q4 := (hb6.cell 4).trans (show _ = some (Value.int .i64 C.b3) from rfl)
  have q5 := (hb6.cell 5).trans (show _ = some (Value.int .i64 C.r) from rfl)
  have q6 := (hb6.cell 6).trans (show _ = some (Value.int .i64 C.wk) from rfl)
  have q7 := (hb6.cell 7).trans (show _ = some (Value.int .i64 C.lg) from rfl)
  clear hNS hsc hK2 hP HNE hb6 hb5 hpar
  generalize turnW C m f k y 8 = z8 at *
  obtain ⟨z1, e1⟩ : ∃ z : Int, ((turnW C m f k y 1 : Nat) : Int) = z := ⟨_, rfl⟩
  obtain ⟨z2, e2⟩ : ∃ z : Int, ((turnW C m f k y 2 : Nat) : Int) = z := ⟨_, rfl⟩
  obtain ⟨z3, e3⟩ : ∃ z : Int, ((turnW C m f k y 3 : Nat) : Int) = z := ⟨_, rfl⟩
  obtain ⟨z4, e4⟩ : ∃ z : Int, ((turnW C m f k y 4 : Nat) : Int) = z := ⟨_, rfl⟩
  obtain ⟨z5, e5⟩ : ∃ z : Int, ((turnW C m f k y 5 : Nat) : Int) = z := ⟨_, rfl⟩
  obtain ⟨z6, e6⟩ : ∃ z : Int, ((turnW C m f k y 6 : Nat) : Int) = z := ⟨_, rfl⟩
  obtain ⟨z7, e7⟩ : ∃ z : Int, ((turnW C m f k y 7 : Nat) : Int) = z := ⟨_, rfl⟩
  rw [e1, e2, e3, e4, e5, e6, e7] at HSC ⊢
  clear e1 e2 e3 e4 e5 e6 e7
  have kf : Keep [] w6 (w6.alloc (.cells #[.slice A2 z8 cap2, .int .i64 z4, .int .i64 z5, .int .i64 z6, .int .i64 z7, .int .i64 z1, .int .i64 z2, .int .i64 z3] 25)) := Keep.alloc _ _
  go_wp2_with fail
  (with_reducible refine (HSC.out _ kf).mono ?_)
  rintro e w7 ⟨rfl, k7⟩
  go_wp2_with fail
  (with_reducible refine (hA _).mono ?_)
  rintro e w8 ⟨rfl, k8⟩
  go_wp2
  go_ret
  exact ⟨rfl, (((kk5.trans k6).trans kf).trans k7).trans k8⟩
end Go.Proofs.Ytihfejbkojhkaaa
