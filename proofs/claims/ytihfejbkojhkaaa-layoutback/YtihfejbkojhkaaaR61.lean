/-
  The document's twin of layout: line, Size, Need, KindWords, MayKind; light. No conditions but what is in memory.
-/
import Derived.Test.YtihfejbkojhkaaaLay1
namespace Go.Proofs.Ytihfejbkojhkaaa
open Go.RowKit Go.Flo Go.Bit
set_option maxRecDepth 100000

theorem rsize_any (k : Nat) (hk : k < 4) (w : World) : Calls Try.prog 26 #[.int .i64 k] w fun e w' => e = .returned (.int .i64 (2 * 2 ^ k : Nat)) ∧ w = w' := by
  match k, hk with
  | 0, _ =>
    go_enter Try.func26, Try.ntmps26
    go_wp2
    go_ret
    exact ⟨rfl, rfl⟩
  | 1, _ =>
    go_enter Try.func26, Try.ntmps26
    go_wp2
    go_ret
    exact ⟨rfl, rfl⟩
  | 2, _ =>
    go_enter Try.func26, Try.ntmps26
    go_wp2
    go_ret
    exact ⟨rfl, rfl⟩
  | 3, _ =>
    go_enter Try.func26, Try.ntmps26
    go_wp2
    go_ret
    exact ⟨rfl, rfl⟩

theorem rline_any (x : Nat) (hx : x ≤ 100000) (w : World) : Calls Try.prog 46 #[.int .i64 x] w fun e w' => e = .returned (.int .i64 (ln x : Nat)) ∧ w = w' := by
  obtain ⟨q, hq⟩ : ∃ q : Nat, q = (x + 7) / 8 := ⟨_, rfl⟩
  have hq1 : q ≤ 100000 := by omega
  have hl : ((ln x : Nat) : Int) = (q : Int) * 8 := by unfold ln; omega
  have hl2 : (((x : Int) + 7) / 8) = (q : Int) := by omega
  have HL := Lib.hid hl
  clear hl hq
  go_enter Try.func46, Try.ntmps46
  go_wp2
  go_ret
  exact ⟨ret_i64 (by rw [HL.out]; omega), rfl⟩
theorem rlineI (x : Int) (n : Nat) (hx : x = n) (hn : n ≤ 100000) (w : World) : Calls Try.prog 46 #[.int .i64 x] w fun e w' => e = .returned (.int .i64 (ln n : Nat)) ∧ w = w' := by
  subst hx
  exact rline_any n hn w
theorem rneed16 (w : World) : Calls Try.prog 41 #[.int .i64 16] w fun e w' => e = .returned (.int .i64 40) ∧ w = w' := by
  go_enter Try.func41, Try.ntmps41
  go_wp2
  go_ret
  exact ⟨rfl, rfl⟩

/-- What KindWords answers. -/
def kwds (m : Nat) (f : Nat → Int) : Nat := if 1 ≤ m ∧ m ≤ 15 ∧ ∀ j, j < m → OkF (f j) then sumF f m else 0

set_option maxHeartbeats 1000000 in
theorem kindWords_any (w : World) (A : Option Addr) (m c : Nat) (f : Nat → Int) (h : Ints w A m c f) :
    Calls Try.prog 59 #[.agg #[.slice A m c]] w fun e w' => e = .returned (.int .i64 (kwds m f : Nat)) ∧ Keep [] w w' := by
  have k1 : Keep [] w (w.alloc (.cells #[.slice A m c] 60)) := Keep.alloc _ _
  have HI := Lib.hid (h.keep k1)
  clear h
  by_cases c1 : m = 0
  · subst c1
    rw [show kwds 0 f = 0 from if_neg (by omega)]
    go_enter Try.func59, Try.ntmps59
    go_wp2
    go_ret
    exact ⟨rfl, k1⟩
  · by_cases c2 : m ≤ 15
    · have c3 : decide ((m : Int) < 1) = false := by simp; omega
      have c4 : decide ((15 : Int) < m) = false := by simp; omega
      go_enter Try.func59, Try.ntmps59
      go_wp2
      go_loop [3, 19] (fun x y => MkRel m f x y) (fun _ y => m - (intOf y).toNat)
      case atStart => exact ⟨0, by omega, rfl, rfl, fun i hi => by omega⟩
      case round =>
        obtain ⟨j, hj, rfl, rfl, hok⟩ := hrel
        have HO := Lib.hid hok
        clear hok
        have hs := sumF_le f j
        by_cases hlt : j < m
        · obtain ⟨b, o, rfl, hb, hc⟩ := HI.out.cells (by omega)
          have cj := hc j hlt
          clear hc
          have hsucc : sumF f (j + 1) = sumF f j + fw (f j) := rfl
          have HS := Lib.hid hsucc
          clear hsucc
          by_cases e1 : f j = 1
          · have HE := Lib.hid e1
            rw [e1] at cj
            clear e1
            go_wp2
            go_round
            case rel => exact ⟨j + 1, by omega, by go_num, by rw [HS.out, HE.out]; simp [fw], fun i hi => by
              rcases Nat.lt_or_ge i j with h | h
              · exact HO.out i h
              · rw [show i = j by omega, HE.out]; simp [OkF]⟩
            case measure => simp [intOf]; omega
          · by_cases e3 : f j = 3
            · have HE := Lib.hid e3
              rw [e3] at cj
              clear e3 e1
              go_wp2
              go_round
              case rel => exact ⟨j + 1, by omega, by go_num, by rw [HS.out, HE.out]; simp [fw], fun i hi => by
                rcases Nat.lt_or_ge i j with h | h
                · exact HO.out i h
                · rw [show i = j by omega, HE.out]; simp [OkF]⟩
              case measure => simp [intOf]; omega
            · by_cases e2 : f j = 2
              · have HE := Lib.hid e2
                rw [e2] at cj
                clear e3 e1 e2
                go_wp2
                go_round
                case rel => exact ⟨j + 1, by omega, by go_num, by rw [HS.out, HE.out]; simp [fw], fun i hi => by
                  rcases Nat.lt_or_ge i j with h | h
                  · exact HO.out i h
                  · rw [show i = j by omega, HE.out]; simp [OkF]⟩
                case measure => simp [intOf]; omega
              · have HD := Lib.hid (show kwds m f = 0 from if_neg (fun hk => by have := hk.2.2 j hlt; unfold OkF at this; omega))
                go_wp2
                go_ret
                exact ⟨by rw [HD.out]; rfl, k1⟩
        · obtain rfl : j = m := by omega
          have HD := Lib.hid (show kwds j f = sumF f j from if_pos ⟨by omega, c2, HO.out⟩)
          go_wp2
          go_ret
          exact ⟨ret_i64 (by rw [HD.out]), k1⟩
    · rw [show kwds m f = 0 from if_neg (fun hk => c2 hk.2.1)]
      go_enter Try.func59, Try.ntmps59
      go_wp2
      go_ret
      exact ⟨rfl, k1⟩

theorem kwds_le (m : Nat) (f : Nat → Int) : kwds m f ≤ 31 := by
  unfold kwds
  split
  · have := sumF_le f m; omega
  · omega
theorem kwds_may (m : Nat) (f : Nat → Int) : (0 < kwds m f ∧ kwds m f ≤ 16) ↔ MayK m f := by
  unfold kwds MayK
  have := sumF_ge f m
  split
  · rename_i h
    constructor
    · intro h2; exact ⟨h.1, h.2.1, h.2.2, h2.2⟩
    · intro h2; exact ⟨by omega, h2.2.2.2⟩
  · rename_i h
    constructor
    · intro h2; omega
    · intro h2; exact absurd ⟨h2.1, h2.2.1, h2.2.2.1⟩ h

theorem rmayKind_any (w : World) (A : Option Addr) (m c : Nat) (f : Nat → Int) (h : Ints w A m c f) :
    Calls Try.prog 40 #[.agg #[.slice A m c]] w fun e w' => e = .returned (.bool (decide (MayK m f))) ∧ Keep [] w w' := by
  have k1 : Keep [] w (w.alloc (.cells #[.slice A m c] 60)) := Keep.alloc _ _
  have hk := kindWords_any (w.alloc (.cells #[.slice A m c] 60)) A m c f (h.keep k1)
  clear h
  have hM := kwds_may m f
  have hL := kwds_le m f
  obtain ⟨q, hq⟩ : ∃ q, kwds m f = q := ⟨_, rfl⟩
  rw [hq] at hk hM hL
  have HM := Lib.hid hM
  clear hM
  by_cases c1 : 0 < q
  · by_cases c2 : q ≤ 16
    · rw [show decide (MayK m f) = true from decide_eq_true (HM.out.1 ⟨c1, c2⟩)]
      go_enter Try.func40, Try.ntmps40
      go_wp2_with fail
      (with_reducible refine hk.mono ?_)
      rintro e w3 ⟨rfl, k3⟩
      go_wp2
      go_ret
      exact ⟨ret_bool (by simp; omega), k1.trans k3⟩
    · rw [show decide (MayK m f) = false from decide_eq_false (fun hx => c2 (HM.out.2 hx).2)]
      go_enter Try.func40, Try.ntmps40
      go_wp2_with fail
      (with_reducible refine hk.mono ?_)
      rintro e w3 ⟨rfl, k3⟩
      go_wp2
      go_ret
      exact ⟨ret_bool (by simp; omega), k1.trans k3⟩
  · rw [show decide (MayK m f) = false from decide_eq_false (fun hx => c1 (HM.out.2 hx).1)]
    obtain rfl : q = 0 := by omega
    go_enter Try.func40, Try.ntmps40
    go_wp2_with fail
    (with_reducible refine hk.mono ?_)
    rintro e w3 ⟨rfl, k3⟩
    go_wp2
    go_ret
    exact ⟨rfl, k1.trans k3⟩

/-- Few kinds, of few fields. -/
def Light (n : Nat) (m : Nat → Nat) : Prop := n ≤ 40 ∧ ∀ i, i < n → m i ≤ 40
instance (n : Nat) (m : Nat → Nat) : Decidable (Light n m) := by unfold Light; infer_instance
def LiRel (w : World) (n : Nat) (m : Nat → Nat) (x : Value) (wr : World) : Prop := ∃ j : Nat, j ≤ n ∧ x = .int .i64 j ∧ (∀ i, i < j → m i ≤ 40) ∧ Keep [] w wr

set_option maxHeartbeats 1000000 in
theorem light_any (w : World) (A : Option Addr) (n cap : Nat) (m : Nat → Nat) (f : Nat → Nat → Int) (b0 b1 b2 b3 r wk lg : Int) (h : KRow w A n cap m f) :
    Calls Try.prog 10 #[.agg #[.slice A n cap, .int .i64 b0, .int .i64 b1, .int .i64 b2, .int .i64 b3, .int .i64 r, .int .i64 wk, .int .i64 lg]] w fun e w' => e = .returned (.bool (decide (Light n m))) ∧ Keep [] w w' := by
  have k1 : Keep [] w (w.alloc (.cells #[.slice A n cap, .int .i64 b0, .int .i64 b1, .int .i64 b2, .int .i64 b3, .int .i64 r, .int .i64 wk, .int .i64 lg] 25)) := Keep.alloc _ _
  have HI := Lib.hid h
  clear h
  by_cases c2 : n ≤ 40
  · go_enter Try.func10, Try.ntmps10
    go_wp2
    go_loopw [12] (fun x wr => LiRel w n m x wr) (fun x _ => n - (intOf x).toNat)
    case atStart => exact ⟨0, by omega, rfl, fun i hi => by omega, k1⟩
    case round =>
      obtain ⟨j, hj, rfl, hok, hK⟩ := hrel
      have HO := Lib.hid hok
      clear hok
      by_cases hlt : j < n
      · obtain ⟨b, o, rfl, hb, hc⟩ := (HI.out.keep hK).cells (by omega)
        obtain ⟨A', c', cj, hI⟩ := hc j hlt
        clear hc hI
        have k2 : Keep [] wr (wr.alloc (.cells #[.slice A' (m j) c'] 60)) := Keep.alloc _ _
        by_cases hM : m j ≤ 40
        · go_wp2
          go_roundw
          case rel => exact ⟨j + 1, by omega, by go_num, fun i hi => by
            rcases Nat.lt_or_ge i j with h | h
            · exact HO.out i h
            · rw [show i = j by omega]; exact hM, hK.trans k2⟩
          case measure => simp [intOf]; omega
        · have HD := Lib.hid (show decide (Light n m) = false from decide_eq_false (fun hx => hM (hx.2 j hlt)))
          go_wp2
          go_ret
          exact ⟨by rw [HD.out]; rfl, hK.trans k2⟩
      · obtain rfl : j = n := by omega
        have HD := Lib.hid (show decide (Light j m) = true from decide_eq_true ⟨c2, HO.out⟩)
        go_wp2
        go_ret
        exact ⟨by rw [HD.out]; rfl, hK⟩
  · rw [show decide (Light n m) = false from decide_eq_false (fun hk => c2 hk.1)]
    go_enter Try.func10, Try.ntmps10
    go_wp2
    go_ret
    exact ⟨rfl, k1⟩
end Go.Proofs.Ytihfejbkojhkaaa
