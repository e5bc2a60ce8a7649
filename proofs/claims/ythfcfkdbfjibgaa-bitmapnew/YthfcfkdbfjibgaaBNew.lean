/-
  BitmapNew, walked. No conditions.
-/
import Derived.Test.YthfcfkdbfjibgaaMap5
namespace Go.Proofs.Ythfcfkdbfjibgaa
open Go.RowKit Go.Flo Go.Bit Go.Bmp
set_option maxRecDepth 100000

theorem cnt_none (m : Nat) : cnt (fun _ => false) m = 0 := by
  induction m with
  | zero => rfl
  | succ m ih => unfold cnt; rw [ih]; rfl

set_option maxHeartbeats 4000000 in
theorem walk_new (a0 a1 : Int) (w : World) : Calls Try.prog 4 #[.int .i64 a0, .int .i64 a1] w fun e w' => e = .returned (.bool true) ∧ Keep [] w w' := by
  have hn := new_any w a0
  have hn1 := clampN_le a0
  have hxn : max 0 (min a0 1048576) = (clampN a0 : Int) := by unfold clampN; omega
  generalize clampN a0 = n at *
  have HX := Lib.hid hxn
  clear hxn
  go_enter Try.func4, Try.ntmps4
  go_wp2_with fail
  (with_reducible refine hn.mono ?_)
  rintro e w1 ⟨L, rfl, hM, _, _, hk1⟩
  clear hn
  go_upto_region 2 with fail
  go_cut [6] (fun s6 wx => s6 = .int .i64 n ∧ w1 = wx)
  case first =>
    have hx := HX.out
    rcases Int.lt_or_le 1048576 a0 with c | c
    · have e : n = 1048576 := by omega
      subst e
      go_wp2_with fail
      go_meet
      exact ⟨rfl, rfl⟩
    · rcases Int.lt_or_le 0 a0 with c2 | c2
      · have e : a0 = n := by omega
        subst e
        go_wp2_with fail
        go_meet
        exact ⟨rfl, rfl⟩
      · have e : n = 0 := by omega
        subst e
        go_wp2_with fail
        go_meet
        exact ⟨rfl, rfl⟩
  case rest =>
  obtain ⟨rfl, rfl⟩ := hcut
  clear HX
  have g1 := mlen_any hM
  have g2 := mcount_any hM
  rw [cnt_none] at g2
  have g2 : Calls Try.prog 16 #[.pointer (some ⟨L.m, 0, none⟩)] w1 fun e w' => e = .returned (.int .i64 0) ∧ w1 = w' := g2
  have g3 := mwords_any hM
  have hq : ((n : Int) + 63).tdiv 64 = (nw n : Int) := by rw [Int.tdiv_eq_ediv_of_nonneg (by omega)]; unfold nw; omega
  have hq' : ((n : Int) + 63) / 64 = (nw n : Int) := by unfold nw; omega
  go_wp2_with fail
  (with_reducible refine g1.mono ?_)
  rintro e w' ⟨rfl, rfl⟩
  go_wp2_with fail
  (with_reducible refine g2.mono ?_)
  rintro e w' ⟨rfl, rfl⟩
  go_wp2_with fail
  (with_reducible refine g3.mono ?_)
  rintro e w2 ⟨g, cap, rfl, hR, _, hk2⟩
  clear g1 g2 g3
  have hK := hk1.trans hk2
  go_wp2_with fail
  (with_reducible refine (mlen_nil w2).mono ?_)
  rintro e w' ⟨rfl, rfl⟩
  go_wp2_with fail
  (with_reducible refine (mget_nil w2 a1).mono ?_)
  rintro e w' ⟨rfl, rfl⟩
  go_wp2_with fail
  (with_reducible refine (mset_nil w2 a1 true).mono ?_)
  rintro e w' ⟨rfl, rfl⟩
  go_wp2_with fail
  (with_reducible refine (mcount_nil w2).mono ?_)
  rintro e w' ⟨rfl, rfl⟩
  go_wp2_with fail
  (with_reducible refine (mfirst_nil w2).mono ?_)
  rintro e w' ⟨rfl, rfl⟩
  go_wp2_with fail
  (with_reducible refine (mwords_nil w2).mono ?_)
  rintro e w' ⟨rfl, rfl⟩
  go_wp2_with fail
  (with_reducible refine (mword_nil w2 a1).mono ?_)
  rintro e w' ⟨rfl, rfl⟩
  go_wp2_with fail
  (with_reducible refine (mcopy_nil w2).mono ?_)
  rintro e w' ⟨rfl, rfl⟩
  go_wp2_with fail
  (with_reducible refine (awake5_any w2).mono ?_)
  rintro e w3 ⟨rfl, hk3⟩
  go_wp2
  go_ret
  exact ⟨rfl, hK.trans hk3⟩
end Go.Proofs.Ythfcfkdbfjibgaa
