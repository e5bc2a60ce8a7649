/-
  BitmapWalks, walked. No conditions.
-/
import Derived.Test.YthfcfkdbfjibgaaMap6
namespace Go.Proofs.Ythfcfkdbfjibgaa
open Go.RowKit Go.Flo Go.Bit Go.Bmp
set_option maxRecDepth 100000

theorem cnt_skip {B : Nat → Bool} {a i : Nat} (h : a ≤ i) (hb : ∀ j, a ≤ j → j < i → B j ≠ true) : cnt B i = cnt B a := by
  obtain ⟨d, rfl⟩ : ∃ d, i = a + d := ⟨i - a, by omega⟩
  clear h
  induction d with
  | zero => rfl
  | succ d ih =>
    show cnt B (a + d) + (B (a + d)).toNat = _
    rw [ih (fun j h1 h2 => hb j h1 (by omega))]
    have := hb (a + d) (by omega) (by omega)
    simp at this
    simp [this]

def WkRel (w : World) (L : MLoc) (n : Nat) (B : Nat → Bool) (x y : Value) (wr : World) : Prop :=
  ∃ a : Nat, a ≤ n ∧ x = .int .i64 (cnt B a : Nat) ∧ y = .int .i64 a ∧ Mp wr L n B ∧ Keep [] w wr
def WkIn (w : World) (L : MLoc) (n : Nat) (B : Nat → Bool) (a i : Nat) (x : Value) (wr : World) : Prop :=
  ∃ j : Nat, a ≤ j ∧ j ≤ i ∧ x = .int .i64 j ∧ Mp wr L n B ∧ Keep [] w wr

set_option maxHeartbeats 4000000 in
theorem walk_walks (a0 : Int) (A : Option Addr) (len cap : Nat) (f : Nat → Nat) (w : World) (hW : Wrd w A len cap f) :
    Calls Try.prog 6 #[.int .i64 a0, .slice A len cap] w fun e w' => e = .returned (.bool true) ∧ Keep [] w w' := by
  obtain ⟨n, hxn⟩ : ∃ n : Nat, max 0 (min a0 500) = (n : Int) := ⟨(max 0 (min a0 500)).toNat, by omega⟩
  have hn : n ≤ 500 := by omega
  have HX := Lib.hid hxn
  have ho := of_any w n A len cap f hW
  rw [clampN_nat (by omega)] at ho
  clear hxn hW
  generalize ofB n len f = B at *
  go_enter Try.func6, Try.ntmps6
  go_upto_region 1 with fail
  go_cut [0] (fun s0 wx => s0 = .int .i64 n ∧ w = wx)
  case first =>
    have hx := HX.out
    rcases Int.lt_or_le 500 a0 with c | c
    · have e : n = 500 := by omega
      subst e
      go_wp2_with fail
      go_meet
      exact ⟨rfl, rfl⟩
    · rcases Int.lt_or_le 0 a0 with c2 | c2
      · have e : a0 = n := by omega
        subst e
        go_wp2_with fail
        go_meet
        exact ⟨rfl, rfl⟩
      · have e : n = 0 := by omega
        subst e
        go_wp2_with fail
        go_meet
        exact ⟨rfl, rfl⟩
  case rest =>
  obtain ⟨rfl, rfl⟩ := hcut
  clear HX
  go_wp2_with fail
  (with_reducible refine ho.mono ?_)
  rintro e w1 ⟨L, rfl, hM, _, _, hk1⟩
  clear ho
  go_wp2_with fail
  go_loopw [6, 7] (fun x y wr => WkRel w L n B x y wr) (fun _ y _ => n - (intOf y).toNat)
  case atStart => exact ⟨0, by omega, rfl, rfl, hM, hk1⟩
  case round =>
    obtain ⟨a, ha, rfl, rfl, hM2, hK⟩ := hrel
    have hca := cnt_le B a
    have g := mfirst_any hM2 a n true (by omega)
    rw [show min (n : Int) (n : Int) = (n : Int) by omega, Int.toNat_natCast, Int.toNat_natCast] at g
    clear hM hk1
    rcases fst_spec B n true _ a rfl with ⟨e1, e2⟩ | ⟨i, e1, e2, e3, e4, e5⟩
    · rw [e1] at g
      have ht := cnt_skip ha e2
      have g2 := mcount_any hM2
      rw [ht] at g2
      clear e1 e2 ht
      go_wp2_with fail
      (with_reducible refine g.mono ?_)
      rintro e w' ⟨rfl, rfl⟩
      go_wp2_with fail
      (with_reducible refine g2.mono ?_)
      rintro e w' ⟨rfl, rfl⟩
      go_wp2_with fail
      (with_reducible refine (awake5_any wr).mono ?_)
      rintro e w3 ⟨rfl, hk3⟩
      go_wp2
      go_ret
      exact ⟨rfl, hK.trans hk3⟩
    · rw [e1] at g
      have hc2 : cnt B (i + 1) = cnt B a + 1 := by
        show cnt B i + (B i).toNat = _
        rw [cnt_skip e2 e5, e4]
        rfl
      have HC := Lib.hid hc2
      have HE := Lib.hid e5
      have g2 := mget_nat hM2 i e3
      rw [e4] at g2
      have q1 : decide ((i : Int) < (a : Int)) = false := by simp; omega
      have q1n : decide (i < a) = false := by simp; omega
      have q2 : decide ((i : Int) < 0) = false := decide_eq_false (by omega)
      have q3 : decide ((n : Int) < ((cnt B a : Nat) : Int)) = false := by simp; omega
      generalize hca' : cnt B a = ca at *
      have q4 : decide (n < ca) = false := decide_eq_false (by omega)
      have HCA := Lib.hid hca'
      clear e1 e5 e4 hc2 hca'
      go_wp2_with fail
      (with_reducible refine g.mono ?_)
      rintro e w' ⟨rfl, rfl⟩
      go_wp2_with fail
      (with_reducible refine g2.mono ?_)
      rintro e w2 ⟨rfl, hd⟩
      have hM3 := hM2.dr hd
      have hK3 := hK.trans (Keep.dr hd)
      clear g g2 hd hM2 hK
      go_wp2_with fail
      generalize wr = wo at *
      go_loopw [9] (fun x wr => WkIn w L n B a i x wr) (fun x _ => i - (intOf x).toNat)
      case atStart => exact ⟨a, by omega, by omega, rfl, hM3, hK3⟩
      case round =>
        obtain ⟨j, h1, h2, rfl, hM4, hK4⟩ := hrel
        clear hM3 hK3
        by_cases hlt : j < i
        · have hlt' : (j : Int) < (i : Int) := by omega
          have hb : B j = false := by have := HE.out j h1 hlt; simpa using this
          have g := mget_nat hM4 j (by omega)
          rw [hb] at g
          clear hb
          go_wp2_with fail
          (with_reducible refine g.mono ?_)
          rintro e w2 ⟨rfl, hd⟩
          have hM5 := hM4.dr hd
          have hK5 := hK4.trans (Keep.dr hd)
          clear g hd hM4 hK4
          go_wp2_with fail
          go_roundw
          case rel => exact ⟨j + 1, by omega, by omega, by go_num, hM5, hK5⟩
          case measure => simp [intOf]; omega
        · have hlt' : ¬ (j : Int) < (i : Int) := by omega
          have hji : j = i := by omega
          subst hji
          go_wp2_with fail
          refine ⟨⟨j + 1, by omega, ?_, by go_num, hM4, hK4⟩, by simp [intOf]; omega⟩
          rw [HC.out]
          go_num
end Go.Proofs.Ythfcfkdbfjibgaa
