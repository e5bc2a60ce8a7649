/-
  BitmapCounts, walked. No conditions.
-/
import Derived.Test.YthfcfkdbfjibgaaCalls5
import Derived.StillTailTactics
namespace Go.Proofs.Ythfcfkdbfjibgaa
open Go.RowKit Go.Flo Go.Bit Go.Bmp
set_option maxRecDepth 100000

def CtRel (w : World) (L : MLoc) (n len : Nat) (x : Value) (wr : World) : Prop :=
  ∃ (i : Nat) (B : Nat → Bool), x = .int .i64 i ∧ i ≤ len ∧ i ≤ 60 ∧ Mp wr L n B ∧ Keep [] w wr

theorem wasZ_again (B : Nat → Bool) (n : Nat) (x : Int) (y : Bool) : wasZ (updZ B n x y) n x y = false := by
  unfold wasZ updZ
  by_cases h : 0 ≤ x ∧ x < n
  · simp [h, upd]
  · simp [h]
theorem mset_again {w : World} {L : MLoc} {n : Nat} {B : Nat → Bool} (h : Mp w L n B) (x : Int) (y : Bool) (hw : wasZ B n x y = false) :
    Calls Try.prog 11 #[.pointer (some ⟨L.m, 0, none⟩), .int .i64 x, .bool y] w fun e w' => e = .returned (.bool false) ∧ Dr w w' := by
  by_cases hi : 0 ≤ x ∧ x < n
  · obtain ⟨k, rfl⟩ := Int.eq_ofNat_of_zero_le hi.1
    have hk : k < n := by omega
    rw [wasZ_nat y hk] at hw
    have e : B k = y := by simpa using hw
    subst e
    exact mset_same h k hk
  · exact of_same (mset_no h x (by omega) y)
theorem setZ_cases (B : Nat → Bool) (n : Nat) (x : Int) (y : Bool) :
    (wasZ B n x y = true ∧ (0 ≤ x ∧ x < n) ∧ y = true ∧ ((cnt B n : Nat) : Int) + 1 = (cnt (updZ B n x y) n : Nat) ∧ gb (updZ B n x y) x = y)
    ∨ (wasZ B n x y = true ∧ (0 ≤ x ∧ x < n) ∧ y = false ∧ ((cnt B n : Nat) : Int) - 1 = (cnt (updZ B n x y) n : Nat) ∧ gb (updZ B n x y) x = y)
    ∨ (wasZ B n x y = false ∧ (0 ≤ x ∧ x < n) ∧ cnt (updZ B n x y) n = cnt B n ∧ gb (updZ B n x y) x = y)
    ∨ (wasZ B n x y = false ∧ (x < 0 ∨ n ≤ x) ∧ cnt (updZ B n x y) n = cnt B n) := by
  by_cases hi : 0 ≤ x ∧ x < n
  · obtain ⟨k, rfl⟩ := Int.eq_ofNat_of_zero_le hi.1
    have hk : k < n := by omega
    rw [wasZ_nat y hk, updZ_nat y hk, gb_nat, upd_same]
    have hc := cnt_upd B k y n hk
    cases hB : B k <;> cases y
    · right; right; left
      rw [hB] at hc
      exact ⟨rfl, hi, by simpa using hc, rfl⟩
    · left
      rw [hB] at hc
      simp only [Bool.toNat_false, Bool.toNat_true] at hc
      exact ⟨rfl, hi, rfl, by omega, rfl⟩
    · right; left
      rw [hB] at hc
      simp only [Bool.toNat_false, Bool.toNat_true] at hc
      exact ⟨rfl, hi, rfl, by omega, rfl⟩
    · right; right; left
      rw [hB] at hc
      exact ⟨rfl, hi, by simpa using hc, rfl⟩
  · right; right; right
    have e1 : updZ B n x y = B := by unfold updZ; rw [if_neg hi]
    have e2 : wasZ B n x y = false := by unfold wasZ; simp [hi]
    rw [e1]
    exact ⟨e2, by omega, rfl⟩

set_option maxHeartbeats 8000000 in
theorem walk_counts (a0 : Int) (A : Option Addr) (len cap : Nat) (f : Nat → Nat) (a2 : Option Addr) (len2 cap2 : Nat) (w : World) (hW : Wrd w A len cap f) (h2 : IsBits w a2 len2 cap2) :
    Calls Try.prog 8 #[.int .i64 a0, .slice A len cap, .slice a2 len2 cap2] w fun e w' => e = .returned (.bool true) ∧ Keep [] w w' := by
  obtain ⟨n, hxn⟩ : ∃ n : Nat, max 0 (min a0 300) = (n : Int) := ⟨(max 0 (min a0 300)).toNat, by omega⟩
  have hn : n ≤ 300 := by omega
  have HX := Lib.hid hxn
  have ho := of_any w n A len cap f hW
  rw [clampN_nat (by omega)] at ho
  clear hxn hW
  generalize ofB n len f = B at *
  obtain ⟨hlc, hcm, hcalls⟩ := h2
  have HC := Lib.hid hcalls
  clear hcalls
  go_enter Try.func8, Try.ntmps8
  go_upto_region 1 with fail
  go_cut [0] (fun s0 wx => s0 = .int .i64 n ∧ w = wx)
  case first =>
    have hx := HX.out
    rcases Int.lt_or_le 300 a0 with c | c
    · have e : n = 300 := by omega
      subst e
      go_wp2_with fail
      go_meet
      exact ⟨rfl, rfl⟩
    · rcases Int.lt_or_le 0 a0 with c2 | c2
      · have e : a0 = n := by omega
        subst e
        go_wp2_with fail
        go_meet
        exact ⟨rfl, rfl⟩
      · have e : n = 0 := by omega
        subst e
        go_wp2_with fail
        go_meet
        exact ⟨rfl, rfl⟩
  case rest =>
  obtain ⟨rfl, rfl⟩ := hcut
  clear HX
  go_wp2_with fail
  (with_reducible refine ho.mono ?_)
  rintro e w1 ⟨L, rfl, hM, _, hLr, hk1⟩
  clear ho
  have HL := Lib.hid (show ∀ k ∈ [L.r], w.heap.size ≤ k by intro k hk; rw [List.mem_singleton] at hk; omega)
  clear hLr
  go_wp2_with fail
  go_loopw [8] (fun x wr => CtRel w L n len2 x wr) (fun x _ => 60 - (intOf x).toNat)
  case atStart => exact ⟨0, B, rfl, by omega, by omega, hM, hk1⟩
  case round =>
    obtain ⟨i, B, rfl, hi1, hi2, hM, hK⟩ := hrel
    clear hk1
    by_cases hlt : i < len2 ∧ i < 60
    · obtain ⟨hl, h60⟩ := hlt
      obtain ⟨b, o, rfl, hb, hat⟩ := HC.out (by omega)
      obtain ⟨x, y, hc⟩ := hat i hl
      clear hat HC
      have hl' : (i : Int) < (len2 : Int) := by omega
      have h60' : (i : Int) < 60 := by omega
      have hc' := hc.keep hK
      have x0 := hc.x0
      have x1 := hc.x1
      have c0 := hc'.c0
      have c1 := hc'.c1
      have g1 := mcount_any hM
      have hcl := cnt_le B n
      have g2 := mset_any (hM.keep0 (Keep.drew wr)) x y
      have g4 : ∀ W, Mp W L n (updZ B n x y) → Calls Try.prog 11 #[.pointer (some ⟨L.m, 0, none⟩), .int .i64 x, .bool y] W fun e w' => e = .returned (.bool false) ∧ Dr W w' := fun W h => mset_again h x y (wasZ_again B n x y)
      have g3 : ∀ W, Mp W L n (updZ B n x y) → Calls Try.prog 16 #[.pointer (some ⟨L.m, 0, none⟩)] W fun e w' => e = .returned (.int .i64 (cnt (updZ B n x y) n : Nat)) ∧ W = w' := fun W h => mcount_any h
      have g5 : ∀ W, Mp W L n (updZ B n x y) → Calls Try.prog 12 #[.pointer (some ⟨L.m, 0, none⟩), .int .i64 x] W fun e w' => e = .returned (.bool (gb (updZ B n x y) x)) ∧ Dr W w' := fun W h => mget_any h x
      have hcs := setZ_cases B n x y
      have hc2l := cnt_le (updZ B n x y) n
      generalize wasZ B n x y = was at *
      generalize gb (updZ B n x y) x = z at *
      generalize hc2 : ((cnt (updZ B n x y) n : Nat) : Int) = c2 at *
      generalize hc1 : ((cnt B n : Nat) : Int) = c at *
      generalize updZ B n x y = B2 at *
      have hkd : Keep [] wr wr.drew := Keep.drew wr
      have G3 := Lib.hid g3
      have G4 := Lib.hid g4
      have G5 := Lib.hid g5
      have bc : 0 ≤ c ∧ c ≤ 300 ∧ 0 ≤ c2 := by omega
      obtain ⟨bc1, bc2, bc3⟩ := bc
      have hcs' : (was = true ∧ (0 ≤ x ∧ x < n) ∧ y = true ∧ c + 1 = c2 ∧ z = y) ∨ (was = true ∧ (0 ≤ x ∧ x < n) ∧ y = false ∧ c - 1 = c2 ∧ z = y) ∨ (was = false ∧ (0 ≤ x ∧ x < n) ∧ c2 = c ∧ z = y) ∨ (was = false ∧ (x < 0 ∨ n ≤ x) ∧ c2 = c) := by
        rcases hcs with h | h | ⟨h1, h2, h3, h4⟩ | ⟨h1, h2, h3⟩
        · exact .inl h
        · exact .inr (.inl h)
        · exact .inr (.inr (.inl ⟨h1, h2, by omega, h4⟩))
        · exact .inr (.inr (.inr ⟨h1, h2, by omega⟩))
      clear hcs hc1 hc2 hc2l g3 g4 g5 hcl
      have HOLD := Lib.hid (And.intro hl h60)
      have HBT := Lib.hid (fun W (h : Keep [] w W) => hc.keep h)
      clear hl h60 hc hc'
      rcases hcs' with ⟨rfl, ⟨q1, q2⟩, rfl, hq, rfl⟩ | ⟨rfl, ⟨q1, q2⟩, rfl, hq, rfl⟩ | ⟨rfl, ⟨q1, q2⟩, rfl, rfl⟩ | ⟨rfl, q1 | q1, rfl⟩
      · have d0 : wr.drew.cell? ⟨b, o + i * 2, none⟩ = some (.int .i64 x) := c0
        go_wp2_with fail
        (with_reducible refine g1.mono ?_)
        rintro e w' ⟨rfl, rfl⟩
        go_wp2_with fail
        go_still_tail 11, (by kernel_rfl)
        change wpList _ _ _ _ _ wr.drew
        go_wp2_with fail
        (with_reducible refine g2.mono ?_)
        rintro e w2 ⟨rfl, hM2, hk2⟩
        have hK2 := hK.since (hkd.of_nil.trans hk2) HL.out
        have hc2 := HBT.out w2 hK2
        have e0 := hc2.c0
        have e1 := hc2.c1
        have D3 := Lib.hid (fun W (h : Dr w2 W) => G3.out W (hM2.dr h))
        have D4 := Lib.hid (fun W (h : Dr w2 W) => G4.out W (hM2.dr h))
        have D5 := Lib.hid (fun W (h : Dr w2 W) => G5.out W (hM2.dr h))
        clear g1 g2 hM hK c0 c1 d0 hkd hk2 hc2
        go_wp2_with fail
        go_quiet ((first | (go_at_call 16; refine quiet_same (D3.out _ (Dr.drewN _ _))) | (go_at_call 11; refine quiet (D4.out _ (Dr.drewN _ _))) | (go_at_call 12; refine quiet (D5.out _ (Dr.drewN _ _)))))
        go_wp2
        have hl := HOLD.out
        exact ⟨⟨i + 1, B2, by go_num, by omega, by omega, hM2.dr (Dr.drewN _ _), hK2.trans (Keep.dr (Dr.drewN _ _))⟩, by simp [intOf]; omega⟩
      · have d0 : wr.drew.cell? ⟨b, o + i * 2, none⟩ = some (.int .i64 x) := c0
        go_wp2_with fail
        (with_reducible refine g1.mono ?_)
        rintro e w' ⟨rfl, rfl⟩
        go_wp2_with fail
        go_still_tail 11, (by kernel_rfl)
        change wpList _ _ _ _ _ wr.drew
        go_wp2_with fail
        (with_reducible refine g2.mono ?_)
        rintro e w2 ⟨rfl, hM2, hk2⟩
        have hK2 := hK.since (hkd.of_nil.trans hk2) HL.out
        have hc2 := HBT.out w2 hK2
        have e0 := hc2.c0
        have e1 := hc2.c1
        have D3 := Lib.hid (fun W (h : Dr w2 W) => G3.out W (hM2.dr h))
        have D4 := Lib.hid (fun W (h : Dr w2 W) => G4.out W (hM2.dr h))
        have D5 := Lib.hid (fun W (h : Dr w2 W) => G5.out W (hM2.dr h))
        clear g1 g2 hM hK c0 c1 d0 hkd hk2 hc2
        go_wp2_with fail
        go_quiet ((first | (go_at_call 16; refine quiet_same (D3.out _ (Dr.drewN _ _))) | (go_at_call 11; refine quiet (D4.out _ (Dr.drewN _ _))) | (go_at_call 12; refine quiet (D5.out _ (Dr.drewN _ _)))))
        go_wp2
        have hl := HOLD.out
        exact ⟨⟨i + 1, B2, by go_num, by omega, by omega, hM2.dr (Dr.drewN _ _), hK2.trans (Keep.dr (Dr.drewN _ _))⟩, by simp [intOf]; omega⟩
      · have q3 : (z != z) = false := by simp
        have d0 : wr.drew.cell? ⟨b, o + i * 2, none⟩ = some (.int .i64 x) := c0
        go_wp2_with fail
        (with_reducible refine g1.mono ?_)
        rintro e w' ⟨rfl, rfl⟩
        go_wp2_with fail
        go_still_tail 11, (by kernel_rfl)
        change wpList _ _ _ _ _ wr.drew
        go_wp2_with fail
        (with_reducible refine g2.mono ?_)
        rintro e w2 ⟨rfl, hM2, hk2⟩
        have hK2 := hK.since (hkd.of_nil.trans hk2) HL.out
        have hc2 := HBT.out w2 hK2
        have e0 := hc2.c0
        have e1 := hc2.c1
        have D3 := Lib.hid (fun W (h : Dr w2 W) => G3.out W (hM2.dr h))
        have D4 := Lib.hid (fun W (h : Dr w2 W) => G4.out W (hM2.dr h))
        have D5 := Lib.hid (fun W (h : Dr w2 W) => G5.out W (hM2.dr h))
        clear g1 g2 hM hK c0 c1 d0 hkd hk2 hc2
        go_wp2_with fail
        go_quiet ((first | (go_at_call 16; refine quiet_same (D3.out _ (Dr.drewN _ _))) | (go_at_call 11; refine quiet (D4.out _ (Dr.drewN _ _))) | (go_at_call 12; refine quiet (D5.out _ (Dr.drewN _ _)))))
        go_wp2
        have hl := HOLD.out
        exact ⟨⟨i + 1, B2, by go_num, by omega, by omega, hM2.dr (Dr.drewN _ _), hK2.trans (Keep.dr (Dr.drewN _ _))⟩, by simp [intOf]; omega⟩
      · have q3 : decide ((0 : Int) ≤ x) = false := decide_eq_false (by omega)
        have d0 : wr.drew.cell? ⟨b, o + i * 2, none⟩ = some (.int .i64 x) := c0
        go_wp2_with fail
        (with_reducible refine g1.mono ?_)
        rintro e w' ⟨rfl, rfl⟩
        go_wp2_with fail
        go_still_tail 11, (by kernel_rfl)
        change wpList _ _ _ _ _ wr.drew
        go_wp2_with fail
        (with_reducible refine g2.mono ?_)
        rintro e w2 ⟨rfl, hM2, hk2⟩
        have hK2 := hK.since (hkd.of_nil.trans hk2) HL.out
        have hc2 := HBT.out w2 hK2
        have e0 := hc2.c0
        have e1 := hc2.c1
        have D3 := Lib.hid (fun W (h : Dr w2 W) => G3.out W (hM2.dr h))
        have D4 := Lib.hid (fun W (h : Dr w2 W) => G4.out W (hM2.dr h))
        have D5 := Lib.hid (fun W (h : Dr w2 W) => G5.out W (hM2.dr h))
        clear g1 g2 hM hK c0 c1 d0 hkd hk2 hc2
        go_wp2_with fail
        go_quiet ((first | (go_at_call 16; refine quiet_same (D3.out _ (Dr.drewN _ _))) | (go_at_call 11; refine quiet (D4.out _ (Dr.drewN _ _))) | (go_at_call 12; refine quiet (D5.out _ (Dr.drewN _ _)))))
        go_wp2
        have hl := HOLD.out
        exact ⟨⟨i + 1, B2, by go_num, by omega, by omega, hM2.dr (Dr.drewN _ _), hK2.trans (Keep.dr (Dr.drewN _ _))⟩, by simp [intOf]; omega⟩
      · have q3 : decide (x < (n : Int)) = false := decide_eq_false (by omega)
        have q4 : (0 : Int) ≤ x := by omega
        have d0 : wr.drew.cell? ⟨b, o + i * 2, none⟩ = some (.int .i64 x) := c0
        go_wp2_with fail
        (with_reducible refine g1.mono ?_)
        rintro e w' ⟨rfl, rfl⟩
        go_wp2_with fail
        go_still_tail 11, (by kernel_rfl)
        change wpList _ _ _ _ _ wr.drew
        go_wp2_with fail
        (with_reducible refine g2.mono ?_)
        rintro e w2 ⟨rfl, hM2, hk2⟩
        have hK2 := hK.since (hkd.of_nil.trans hk2) HL.out
        have hc2 := HBT.out w2 hK2
        have e0 := hc2.c0
        have e1 := hc2.c1
        have D3 := Lib.hid (fun W (h : Dr w2 W) => G3.out W (hM2.dr h))
        have D4 := Lib.hid (fun W (h : Dr w2 W) => G4.out W (hM2.dr h))
        have D5 := Lib.hid (fun W (h : Dr w2 W) => G5.out W (hM2.dr h))
        clear g1 g2 hM hK c0 c1 d0 hkd hk2 hc2
        go_wp2_with fail
        go_quiet ((first | (go_at_call 16; refine quiet_same (D3.out _ (Dr.drewN _ _))) | (go_at_call 11; refine quiet (D4.out _ (Dr.drewN _ _))) | (go_at_call 12; refine quiet (D5.out _ (Dr.drewN _ _)))))
        go_wp2
        have hl := HOLD.out
        exact ⟨⟨i + 1, B2, by go_num, by omega, by omega, hM2.dr (Dr.drewN _ _), hK2.trans (Keep.dr (Dr.drewN _ _))⟩, by simp [intOf]; omega⟩
    · by_cases hl : i < len2
      · have hl' : (i : Int) < (len2 : Int) := by omega
        have h60 : decide ((i : Int) < 60) = false := decide_eq_false (by omega)
        clear hlt HC
        have gl := mlen_any hM
        go_wp2_with fail
        (with_reducible refine gl.mono ?_)
        rintro e w' ⟨rfl, rfl⟩
        go_wp2_with fail
        (with_reducible refine (awake5_any wr).mono ?_)
        rintro e w5 ⟨rfl, hK6⟩
        go_wp2
        go_ret
        exact ⟨rfl, hK.trans hK6⟩
      · have hl' : decide ((i : Int) < (len2 : Int)) = false := decide_eq_false (by omega)
        have hl2 : decide (i < len2) = false := decide_eq_false (by omega)
        clear hlt HC
        have gl := mlen_any hM
        go_wp2_with fail
        (with_reducible refine gl.mono ?_)
        rintro e w' ⟨rfl, rfl⟩
        go_wp2_with fail
        (with_reducible refine (awake5_any wr).mono ?_)
        rintro e w5 ⟨rfl, hK6⟩
        go_wp2
        go_ret
        exact ⟨rfl, hK.trans hK6⟩
end Go.Proofs.Ythfcfkdbfjibgaa
