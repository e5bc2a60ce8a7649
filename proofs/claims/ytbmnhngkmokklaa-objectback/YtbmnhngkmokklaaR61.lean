/-
  The document's twin of layout: line, Size, Need, KindWords, MayKind; light. No conditions but what is in memory.
-/
import Derived.Test.YtbmnhngkmokklaaLay1
namespace Go.Proofs.Ytbmnhngkmokklaa
open Go.RowKit Go.Flo Go.Bit
set_option maxRecDepth 100000

/-- What KindWords answers. -/
def kwds (m : Nat) (f : Nat → Int) : Nat := if 1 ≤ m ∧ m ≤ 15 ∧ ∀ j, j < m → OkF (f j) then sumF f m else 0

set_option maxHeartbeats 1000000 in
theorem kindWords_any (w : World) (A : Option Addr) (m c : Nat) (f : Nat → Int) (h : Ints w A m c f) :
    Calls Try.prog 23 #[.agg #[.slice A m c]] w fun e w' => e = .returned (.int .i64 (kwds m f : Nat)) ∧ Keep [] w w' := by
  have k1 : Keep [] w (w.alloc (.cells #[.slice A m c] 47)) := Keep.alloc _ _
  have HI := Lib.hid (h.keep k1)
  clear h
  by_cases c1 : m = 0
  · subst c1
    rw [show kwds 0 f = 0 from if_neg (by omega)]
    go_enter Try.func23, Try.ntmps23
    go_wp2
    go_ret
    exact ⟨rfl, k1⟩
  · by_cases c2 : m ≤ 15
    · have c3 : decide ((m : Int) < 1) = false := by simp; omega
      have c4 : decide ((15 : Int) < m) = false := by simp; omega
      go_enter Try.func23, Try.ntmps23
      go_wp2
      go_loop [3, 19] (fun x y => MkRel m f x y) (fun _ y => m - (intOf y).toNat)
      case atStart => exact ⟨0, by omega, rfl, rfl, fun i hi => by omega⟩
      case round =>
        obtain ⟨j, hj, rfl, rfl, hok⟩ := hrel
        have HO := Lib.hid hok
        clear hok
        have hs := sumF_le f j
        by_cases hlt : j < m
        · obtain ⟨b, o, rfl, hb, hc⟩ := HI.out.cells (by omega)
          have cj := hc j hlt
          clear hc
          have hsucc : sumF f (j + 1) = sumF f j + fw (f j) := rfl
          have HS := Lib.hid hsucc
          clear hsucc
          by_cases e1 : f j = 1
          · have HE := Lib.hid e1
            rw [e1] at cj
            clear e1
            go_wp2
            go_round
            case rel => exact ⟨j + 1, by omega, by go_num, by rw [HS.out, HE.out]; simp [fw], fun i hi => by
              rcases Nat.lt_or_ge i j with h | h
              · exact HO.out i h
              · rw [show i = j by omega, HE.out]; simp [OkF]⟩
            case measure => simp [intOf]; omega
          · by_cases e3 : f j = 3
            · have HE := Lib.hid e3
              rw [e3] at cj
              clear e3 e1
              go_wp2
              go_round
              case rel => exact ⟨j + 1, by omega, by go_num, by rw [HS.out, HE.out]; simp [fw], fun i hi => by
                rcases Nat.lt_or_ge i j with h | h
                · exact HO.out i h
                · rw [show i = j by omega, HE.out]; simp [OkF]⟩
              case measure => simp [intOf]; omega
            · by_cases e2 : f j = 2
              · have HE := Lib.hid e2
                rw [e2] at cj
                clear e3 e1 e2
                go_wp2
                go_round
                case rel => exact ⟨j + 1, by omega, by go_num, by rw [HS.out, HE.out]; simp [fw], fun i hi => by
                  rcases Nat.lt_or_ge i j with h | h
                  · exact HO.out i h
                  · rw [show i = j by omega, HE.out]; simp [OkF]⟩
                case measure => simp [intOf]; omega
              · have HD := Lib.hid (show kwds m f = 0 from if_neg (fun hk => by have := hk.2.2 j hlt; unfold OkF at this; omega))
                go_wp2
                go_ret
                exact ⟨by rw [HD.out]; rfl, k1⟩
        · obtain rfl : j = m := by omega
          have HD := Lib.hid (show kwds j f = sumF f j from if_pos ⟨by omega, c2, HO.out⟩)
          go_wp2
          go_ret
          exact ⟨ret_i64 (by rw [HD.out]), k1⟩
    · rw [show kwds m f = 0 from if_neg (fun hk => c2 hk.2.1)]
      go_enter Try.func23, Try.ntmps23
      go_wp2
      go_ret
      exact ⟨rfl, k1⟩

theorem kwds_le (m : Nat) (f : Nat → Int) : kwds m f ≤ 31 := by
  unfold kwds
  split
  · have := sumF_le f m; omega
  · omega

theorem kwds_may (m : Nat) (f : Nat → Int) : (0 < kwds m f ∧ kwds m f ≤ 16) ↔ MayK m f := by
  unfold kwds MayK
  have := sumF_ge f m
  split
  · rename_i h
    constructor
    · intro h2; exact ⟨h.1, h.2.1, h.2.2, h2.2⟩
    · intro h2; exact ⟨by omega, h2.2.2.2⟩
  · rename_i h
    constructor
    · intro h2; omega
    · intro h2; exact absurd ⟨h2.1, h2.2.1, h2.2.2.1⟩ h

theorem rmayKind_any (w : World) (A : Option Addr) (m c : Nat) (f : Nat → Int) (h : Ints w A m c f) :
    Calls Try.prog 36 #[.agg #[.slice A m c]] w fun e w' => e = .returned (.bool (decide (MayK m f))) ∧ Keep [] w w' := by
  have k1 : Keep [] w (w.alloc (.cells #[.slice A m c] 47)) := Keep.alloc _ _
  have hk := kindWords_any (w.alloc (.cells #[.slice A m c] 47)) A m c f (h.keep k1)
  clear h
  have hM := kwds_may m f
  have hL := kwds_le m f
  obtain ⟨q, hq⟩ : ∃ q, kwds m f = q := ⟨_, rfl⟩
  rw [hq] at hk hM hL
  have HM := Lib.hid hM
  clear hM
  by_cases c1 : 0 < q
  · by_cases c2 : q ≤ 16
    · rw [show decide (MayK m f) = true from decide_eq_true (HM.out.1 ⟨c1, c2⟩)]
      go_enter Try.func36, Try.ntmps36
      go_wp2_with fail
      (with_reducible refine hk.mono ?_)
      rintro e w3 ⟨rfl, k3⟩
      go_wp2
      go_ret
      exact ⟨ret_bool (by simp; omega), k1.trans k3⟩
    · rw [show decide (MayK m f) = false from decide_eq_false (fun hx => c2 (HM.out.2 hx).2)]
      go_enter Try.func36, Try.ntmps36
      go_wp2_with fail
      (with_reducible refine hk.mono ?_)
      rintro e w3 ⟨rfl, k3⟩
      go_wp2
      go_ret
      exact ⟨ret_bool (by simp; omega), k1.trans k3⟩
  · rw [show decide (MayK m f) = false from decide_eq_false (fun hx => c1 (HM.out.2 hx).1)]
    obtain rfl : q = 0 := by omega
    go_enter Try.func36, Try.ntmps36
    go_wp2_with fail
    (with_reducible refine hk.mono ?_)
    rintro e w3 ⟨rfl, k3⟩
    go_wp2
    go_ret
    exact ⟨rfl, k1.trans k3⟩

/-- Few kinds, of few fields. -/
def Light (n : Nat) (m : Nat → Nat) : Prop := n ≤ 40 ∧ ∀ i, i < n → m i ≤ 40
instance (n : Nat) (m : Nat → Nat) : Decidable (Light n m) := by unfold Light; infer_instance

def LiRel (w : World) (n : Nat) (m : Nat → Nat) (x : Value) (wr : World) : Prop := ∃ j : Nat, j ≤ n ∧ x = .int .i64 j ∧ (∀ i, i < j → m i ≤ 40) ∧ Keep [] w wr

end Go.Proofs.Ytbmnhngkmokklaa
