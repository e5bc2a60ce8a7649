/-
  Package layout: the small functions: size, parts, lineEnd, fieldAt, number, redo.Need, mayKind, mayKinds, mayBlocks, mayRoots, mayLog. No conditions but what is in memory.
-/
import Derived.Test.YtfihaaciaobolaaLarr
import Derived.LoopN
import Derived.Deep.DeepCutAuto
import Derived.StillTailTactics
import Derived.OwnWalk
namespace Go.Proofs.Ytfihaaciaobolaa
open Go.RowKit Go.Flo Go.Bit
set_option maxRecDepth 100000

theorem ret_bool {a b : Bool} (h : a = b) : Ending.returned (.bool a) = .returned (.bool b) := by rw [h]

theorem size_any (k : Nat) (hk : k < 4) (w : World) : Calls Try.prog 50 #[.int .i64 k] w fun e w' => e = .returned (.int .i64 (2 * 2 ^ k : Nat)) ∧ w = w' := by
  match k, hk with
  | 0, _ =>
    go_enter Try.func50, Try.ntmps50
    go_wp2
    go_ret
    exact ⟨rfl, rfl⟩
  | 1, _ =>
    go_enter Try.func50, Try.ntmps50
    go_wp2
    go_ret
    exact ⟨rfl, rfl⟩
  | 2, _ =>
    go_enter Try.func50, Try.ntmps50
    go_wp2
    go_ret
    exact ⟨rfl, rfl⟩
  | 3, _ =>
    go_enter Try.func50, Try.ntmps50
    go_wp2
    go_ret
    exact ⟨rfl, rfl⟩

theorem parts8 (x : Nat) (hx : x ≤ 100000) (w : World) : Calls Try.prog 57 #[.int .i64 x, .int .i64 8] w fun e w' => e = .returned (.int .i64 ((x + 7) / 8 : Nat)) ∧ w = w' := by
  go_enter Try.func57, Try.ntmps57
  go_wp2
  go_ret
  exact ⟨ret_i64 (by omega), rfl⟩

theorem parts64 (x : Nat) (hx : x ≤ 100000) (w : World) : Calls Try.prog 57 #[.int .i64 x, .int .i64 64] w fun e w' => e = .returned (.int .i64 ((x + 63) / 64 : Nat)) ∧ w = w' := by
  go_enter Try.func57, Try.ntmps57
  go_wp2
  go_ret
  exact ⟨ret_i64 (by omega), rfl⟩

theorem lineEnd_any (x : Nat) (hx : x ≤ 100000) (w : World) : Calls Try.prog 56 #[.int .i64 x] w fun e w' => e = .returned (.int .i64 (ln x : Nat)) ∧ w = w' := by
  have hp := parts8 x hx w
  obtain ⟨q, hq⟩ : ∃ q : Nat, q = (x + 7) / 8 := ⟨_, rfl⟩
  have hq1 : q ≤ 100000 := by omega
  have hl : ((ln x : Nat) : Int) = (q : Int) * 8 := by unfold ln; omega
  rw [← hq] at hp
  have HL := Lib.hid hl
  clear hl hq
  go_enter Try.func56, Try.ntmps56
  go_wp2_with fail
  (with_reducible refine hp.mono ?_)
  rintro e w' ⟨rfl, rfl⟩
  go_wp2
  go_ret
  exact ⟨ret_i64 HL.out.symm, rfl⟩

theorem need16 (w : World) : Calls Try.prog 69 #[.int .i64 16] w fun e w' => e = .returned (.int .i64 40) ∧ w = w' := by
  go_enter Try.func69, Try.ntmps69
  go_wp2
  go_ret
  exact ⟨rfl, rfl⟩

theorem mayRoots_any (A : Option Addr) (n cap : Nat) (b0 b1 b2 b3 r wk lg : Int) (w : World) :
    Calls Try.prog 54 #[.agg #[.slice A n cap, .int .i64 b0, .int .i64 b1, .int .i64 b2, .int .i64 b3, .int .i64 r, .int .i64 wk, .int .i64 lg]] w fun e w' => e = .returned (.bool (decide (MayR r wk))) ∧ Keep [] w w' := by
  have k1 : Keep [] w (w.alloc (.cells #[.slice A n cap, .int .i64 b0, .int .i64 b1, .int .i64 b2, .int .i64 b3, .int .i64 r, .int .i64 wk, .int .i64 lg] 27)) := Keep.alloc _ _
  by_cases c1 : 0 < r
  · by_cases c2 : r ≤ 16
    · by_cases c3 : 0 ≤ wk
      · by_cases c4 : wk ≤ 16
        · rw [show decide (MayR r wk) = true from decide_eq_true (by unfold MayR; omega)]
          go_enter Try.func54, Try.ntmps54
          go_wp2
          go_ret
          exact ⟨rfl, k1⟩
        · rw [show decide (MayR r wk) = false from decide_eq_false (by unfold MayR; omega)]
          go_enter Try.func54, Try.ntmps54
          go_wp2
          go_ret
          exact ⟨rfl, k1⟩
      · rw [show decide (MayR r wk) = false from decide_eq_false (by unfold MayR; omega)]
        go_enter Try.func54, Try.ntmps54
        go_wp2
        go_ret
        exact ⟨rfl, k1⟩
    · rw [show decide (MayR r wk) = false from decide_eq_false (by unfold MayR; omega)]
      go_enter Try.func54, Try.ntmps54
      go_wp2
      go_ret
      exact ⟨rfl, k1⟩
  · rw [show decide (MayR r wk) = false from decide_eq_false (by unfold MayR; omega)]
    go_enter Try.func54, Try.ntmps54
    go_wp2
    go_ret
    exact ⟨rfl, k1⟩

theorem mayLog_any (lg : Int) (h0 : -9223372036854775808 ≤ lg) (h1 : lg ≤ 9223372036854775807) (w : World) : Calls Try.prog 55 #[.int .i64 lg] w fun e w' => e = .returned (.bool (decide (MayL lg))) ∧ w = w' := by
  have hn := need16 w
  by_cases c1 : 40 ≤ lg
  · by_cases c2 : lg ≤ 4096
    · obtain ⟨k, rfl⟩ := Int.eq_ofNat_of_zero_le (show 0 ≤ lg by omega)
      by_cases c3 : (k : Int) % 8 = 0
      · rw [show decide (MayL (k : Int)) = true from decide_eq_true (by unfold MayL; omega)]
        go_enter Try.func55, Try.ntmps55
        go_wp2_with fail
        (with_reducible refine hn.mono ?_)
        rintro e w' ⟨rfl, rfl⟩
        go_wp2
        go_ret
        exact ⟨rfl, rfl⟩
      · have c4 : ((k : Int) % 8 == 0) = false := by simpa using c3
        rw [show decide (MayL (k : Int)) = false from decide_eq_false (by unfold MayL; omega)]
        go_enter Try.func55, Try.ntmps55
        go_wp2_with fail
        (with_reducible refine hn.mono ?_)
        rintro e w' ⟨rfl, rfl⟩
        go_wp2
        go_ret
        exact ⟨rfl, rfl⟩
    · rw [show decide (MayL lg) = false from decide_eq_false (by unfold MayL; omega)]
      go_enter Try.func55, Try.ntmps55
      go_wp2_with fail
      (with_reducible refine hn.mono ?_)
      rintro e w' ⟨rfl, rfl⟩
      go_wp2
      go_ret
      exact ⟨rfl, rfl⟩
  · rw [show decide (MayL lg) = false from decide_eq_false (by unfold MayL; omega)]
    go_enter Try.func55, Try.ntmps55
    go_wp2_with fail
    (with_reducible refine hn.mono ?_)
    rintro e w' ⟨rfl, rfl⟩
    go_wp2
    go_ret
    exact ⟨rfl, rfl⟩

def MkRel (m : Nat) (f : Nat → Int) (x y : Value) : Prop := ∃ j : Nat, j ≤ m ∧ y = .int .i64 j ∧ x = .int .i64 (sumF f j : Nat) ∧ ∀ i, i < j → OkF (f i)

set_option maxHeartbeats 1000000 in
theorem mayKind_any (w : World) (A : Option Addr) (m c : Nat) (f : Nat → Int) (h : Ints w A m c f) :
    Calls Try.prog 68 #[.agg #[.slice A m c]] w fun e w' => e = .returned (.bool (decide (MayK m f))) ∧ Keep [] w w' := by
  have k1 : Keep [] w (w.alloc (.cells #[.slice A m c] 71)) := Keep.alloc _ _
  have HI := Lib.hid (h.keep k1)
  clear h
  by_cases c1 : m = 0
  · subst c1
    rw [show decide (MayK 0 f) = false from decide_eq_false (by unfold MayK; omega)]
    go_enter Try.func68, Try.ntmps68
    go_wp2
    go_ret
    exact ⟨rfl, k1⟩
  · have c1' : ((m : Int) == 0) = false := by simp; omega
    by_cases c2 : m ≤ 15
    · go_enter Try.func68, Try.ntmps68
      go_wp2
      go_loop [3, 19] (fun x y => MkRel m f x y) (fun _ y => m - (intOf y).toNat)
      case atStart => exact ⟨0, by omega, rfl, rfl, fun i hi => by omega⟩
      case round =>
        obtain ⟨j, hj, rfl, rfl, hok⟩ := hrel
        have HO := Lib.hid hok
        clear hok
        have hs := sumF_le f j
        by_cases hlt : j < m
        · obtain ⟨b, o, rfl, hb, hc⟩ := HI.out.cells (by omega)
          have cj := hc j hlt
          clear hc
          have hsucc : sumF f (j + 1) = sumF f j + fw (f j) := rfl
          have HS := Lib.hid hsucc
          clear hsucc
          by_cases e1 : f j = 1
          · have HE := Lib.hid e1
            rw [e1] at cj
            clear e1
            go_wp2
            go_round
            case rel => exact ⟨j + 1, by omega, by go_num, by rw [HS.out, HE.out]; simp [fw], fun i hi => by
              rcases Nat.lt_or_ge i j with h | h
              · exact HO.out i h
              · rw [show i = j by omega, HE.out]; simp [OkF]⟩
            case measure => simp [intOf]; omega
          · by_cases e3 : f j = 3
            · have HE := Lib.hid e3
              rw [e3] at cj
              clear e3 e1
              go_wp2
              go_round
              case rel => exact ⟨j + 1, by omega, by go_num, by rw [HS.out, HE.out]; simp [fw], fun i hi => by
                rcases Nat.lt_or_ge i j with h | h
                · exact HO.out i h
                · rw [show i = j by omega, HE.out]; simp [OkF]⟩
              case measure => simp [intOf]; omega
            · by_cases e2 : f j = 2
              · have HE := Lib.hid e2
                rw [e2] at cj
                clear e3 e1 e2
                go_wp2
                go_round
                case rel => exact ⟨j + 1, by omega, by go_num, by rw [HS.out, HE.out]; simp [fw], fun i hi => by
                  rcases Nat.lt_or_ge i j with h | h
                  · exact HO.out i h
                  · rw [show i = j by omega, HE.out]; simp [OkF]⟩
                case measure => simp [intOf]; omega
              · have HD := Lib.hid (show decide (MayK m f) = false from decide_eq_false (fun hk => by have := hk.2.2.1 j hlt; unfold OkF at this; omega))
                go_wp2
                go_ret
                exact ⟨by rw [HD.out]; rfl, k1⟩
        · obtain rfl : j = m := by omega
          by_cases hw : sumF f j ≤ 16
          · have HD := Lib.hid (show decide (MayK j f) = true from decide_eq_true ⟨by omega, c2, HO.out, hw⟩)
            go_wp2
            go_ret
            exact ⟨ret_bool (by rw [HD.out]; simp; omega), k1⟩
          · have HD := Lib.hid (show decide (MayK j f) = false from decide_eq_false (fun hk => hw hk.2.2.2))
            go_wp2
            go_ret
            exact ⟨ret_bool (by rw [HD.out]; simp; omega), k1⟩
    · rw [show decide (MayK m f) = false from decide_eq_false (fun hk => c2 hk.2.1)]
      go_enter Try.func68, Try.ntmps68
      go_wp2
      go_ret
      exact ⟨rfl, k1⟩

def MksRel (w : World) (n : Nat) (m : Nat → Nat) (f : Nat → Nat → Int) (x : Value) (wr : World) : Prop := ∃ j : Nat, j ≤ n ∧ x = .int .i64 j ∧ (∀ i, i < j → MayK (m i) (f i)) ∧ Keep [] w wr

set_option maxHeartbeats 1000000 in
theorem mayKinds_any (w : World) (A : Option Addr) (n cap : Nat) (m : Nat → Nat) (f : Nat → Nat → Int) (h : KRow w A n cap m f) :
    Calls Try.prog 52 #[.slice A n cap] w fun e w' => e = .returned (.bool (decide (MayKs n m f))) ∧ Keep [] w w' := by
  have HI := Lib.hid h
  clear h
  by_cases c1 : n = 0
  · subst c1
    rw [show decide (MayKs 0 m f) = false from decide_eq_false (by unfold MayKs; omega)]
    go_enter Try.func52, Try.ntmps52
    go_wp2
    go_ret
    exact ⟨rfl, Keep.refl _ _⟩
  · have c1' : ((n : Int) == 0) = false := by simp; omega
    by_cases c2 : n ≤ 16
    · go_enter Try.func52, Try.ntmps52
      go_wp2
      go_loopw [15] (fun x wr => MksRel w n m f x wr) (fun x _ => n - (intOf x).toNat)
      case atStart => exact ⟨0, by omega, rfl, fun i hi => by omega, Keep.refl _ _⟩
      case round =>
        obtain ⟨j, hj, rfl, hok, hK⟩ := hrel
        have HO := Lib.hid hok
        clear hok
        by_cases hlt : j < n
        · obtain ⟨b, o, rfl, hb, hc⟩ := (HI.out.keep hK).cells (by omega)
          obtain ⟨A', c', cj, hI⟩ := hc j hlt
          clear hc
          have k2 : Keep [] wr (wr.alloc (.cells #[.slice A' (m j) c'] 71)) := Keep.alloc _ _
          have hk := mayKind_any (wr.alloc (.cells #[.slice A' (m j) c'] 71)) A' (m j) c' (f j) (hI.keep k2)
          clear hI
          by_cases hM : MayK (m j) (f j)
          · rw [show decide (MayK (m j) (f j)) = true from decide_eq_true hM] at hk
            have HM := Lib.hid hM
            clear hM
            go_wp2_with fail
            (with_reducible refine hk.mono ?_)
            rintro e w3 ⟨rfl, k3⟩
            go_wp2
            go_roundw
            case rel => exact ⟨j + 1, by omega, by go_num, fun i hi => by
              rcases Nat.lt_or_ge i j with h | h
              · exact HO.out i h
              · rw [show i = j by omega]; exact HM.out, (hK.trans k2).trans k3⟩
            case measure => simp [intOf]; omega
          · rw [show decide (MayK (m j) (f j)) = false from decide_eq_false hM] at hk
            have HD := Lib.hid (show decide (MayKs n m f) = false from decide_eq_false (fun hx => hM (hx.2.2 j hlt)))
            clear hM
            go_wp2_with fail
            (with_reducible refine hk.mono ?_)
            rintro e w3 ⟨rfl, k3⟩
            go_wp2
            go_ret
            exact ⟨by rw [HD.out]; rfl, (hK.trans k2).trans k3⟩
        · obtain rfl : j = n := by omega
          have HD := Lib.hid (show decide (MayKs j m f) = true from decide_eq_true ⟨by omega, c2, HO.out⟩)
          go_wp2
          go_ret
          exact ⟨by rw [HD.out]; rfl, hK⟩
    · rw [show decide (MayKs n m f) = false from decide_eq_false (fun hk => c2 hk.2.1)]
      go_enter Try.func52, Try.ntmps52
      go_wp2
      go_ret
      exact ⟨rfl, Keep.refl _ _⟩

set_option maxHeartbeats 1000000 in
theorem mayBlocks_any (b0 b1 b2 b3 : Int) (w : World) : Calls Try.prog 53 #[.agg #[.int .i64 b0, .int .i64 b1, .int .i64 b2, .int .i64 b3]] w fun e w' => e = .returned (.bool (decide (MayB b0 b1 b2 b3))) ∧ Keep [] w w' := by
  have k1 : Keep [] w (w.alloc (.cells #[.int .i64 b0, .int .i64 b1, .int .i64 b2, .int .i64 b3] 22)) := Keep.alloc _ _
  have i0 := fun W => idx40 W b0 b1 b2 b3
  have i1 := fun W => idx41 W b0 b1 b2 b3
  have i2 := fun W => idx42 W b0 b1 b2 b3
  have i3 := fun W => idx43 W b0 b1 b2 b3
  have ie := fun W => eq4 W b0 b1 b2 b3 0 0 0 0
  by_cases c0 : 0 ≤ b0
  · by_cases d0 : b0 ≤ 512
    · by_cases c1 : 0 ≤ b1
      · by_cases d1 : b1 ≤ 512
        · by_cases c2 : 0 ≤ b2
          · by_cases d2 : b2 ≤ 512
            · by_cases c3 : 0 ≤ b3
              · by_cases d3 : b3 ≤ 512
                · have HD := Lib.hid (show ((!(b0 == 0)) || ((!(b1 == 0)) || ((!(b2 == 0)) || (!(b3 == 0))))) = decide (MayB b0 b1 b2 b3) by
                    rw [Bool.eq_iff_iff, decide_eq_true_iff]
                    simp only [MayB, Bool.or_eq_true, Bool.not_eq_true', beq_eq_false_iff_ne]
                    omega)
                  go_enter Try.func53, Try.ntmps53
                  go_wp2
                  refine wp_loop_rounds 5 ?_
                  rw [rounds_succ]; go_wp2
                  rw [rounds_succ]; go_wp2
                  rw [rounds_succ]; go_wp2
                  rw [rounds_succ]; go_wp2
                  rw [rounds_succ]; go_wp2
                  go_ret
                  exact ⟨ret_bool HD.out, k1⟩
                · rw [show decide (MayB b0 b1 b2 b3) = false from decide_eq_false (by unfold MayB; omega)]
                  go_enter Try.func53, Try.ntmps53
                  go_wp2
                  refine wp_loop_rounds 5 ?_
                  rw [rounds_succ]; go_wp2
                  rw [rounds_succ]; go_wp2
                  rw [rounds_succ]; go_wp2
                  rw [rounds_succ]; go_wp2
                  go_ret
                  exact ⟨rfl, k1⟩
              · rw [show decide (MayB b0 b1 b2 b3) = false from decide_eq_false (by unfold MayB; omega)]
                go_enter Try.func53, Try.ntmps53
                go_wp2
                refine wp_loop_rounds 5 ?_
                rw [rounds_succ]; go_wp2
                rw [rounds_succ]; go_wp2
                rw [rounds_succ]; go_wp2
                rw [rounds_succ]; go_wp2
                go_ret
                exact ⟨rfl, k1⟩
            · rw [show decide (MayB b0 b1 b2 b3) = false from decide_eq_false (by unfold MayB; omega)]
              go_enter Try.func53, Try.ntmps53
              go_wp2
              refine wp_loop_rounds 5 ?_
              rw [rounds_succ]; go_wp2
              rw [rounds_succ]; go_wp2
              rw [rounds_succ]; go_wp2
              go_ret
              exact ⟨rfl, k1⟩
          · rw [show decide (MayB b0 b1 b2 b3) = false from decide_eq_false (by unfold MayB; omega)]
            go_enter Try.func53, Try.ntmps53
            go_wp2
            refine wp_loop_rounds 5 ?_
            rw [rounds_succ]; go_wp2
            rw [rounds_succ]; go_wp2
            rw [rounds_succ]; go_wp2
            go_ret
            exact ⟨rfl, k1⟩
        · rw [show decide (MayB b0 b1 b2 b3) = false from decide_eq_false (by unfold MayB; omega)]
          go_enter Try.func53, Try.ntmps53
          go_wp2
          refine wp_loop_rounds 5 ?_
          rw [rounds_succ]; go_wp2
          rw [rounds_succ]; go_wp2
          go_ret
          exact ⟨rfl, k1⟩
      · rw [show decide (MayB b0 b1 b2 b3) = false from decide_eq_false (by unfold MayB; omega)]
        go_enter Try.func53, Try.ntmps53
        go_wp2
        refine wp_loop_rounds 5 ?_
        rw [rounds_succ]; go_wp2
        rw [rounds_succ]; go_wp2
        go_ret
        exact ⟨rfl, k1⟩
    · rw [show decide (MayB b0 b1 b2 b3) = false from decide_eq_false (by unfold MayB; omega)]
      go_enter Try.func53, Try.ntmps53
      go_wp2
      refine wp_loop_rounds 5 ?_
      rw [rounds_succ]; go_wp2
      go_ret
      exact ⟨rfl, k1⟩
  · rw [show decide (MayB b0 b1 b2 b3) = false from decide_eq_false (by unfold MayB; omega)]
    go_enter Try.func53, Try.ntmps53
    go_wp2
    refine wp_loop_rounds 5 ?_
    rw [rounds_succ]; go_wp2
    go_ret
    exact ⟨rfl, k1⟩

end Go.Proofs.Ytfihaaciaobolaa
