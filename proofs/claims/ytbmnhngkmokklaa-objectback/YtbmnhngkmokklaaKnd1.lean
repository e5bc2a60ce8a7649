/-
  Package kind: fieldAt, fieldWords, wordsOf, Words, May, Offset. No conditions but what is in memory.
-/
import Derived.Test.YtbmnhngkmokklaaR64k
import Derived.Test.YtbmnhngkmokklaaR66
import Derived.Test.YtbmnhngkmokklaaRound
namespace Go.Flo
open Go.RowKit Go.Bit

/-- The words of a field; 0, if it is none. -/
def fwz (x : Int) : Nat := if x = 1 ∨ x = 3 then 1 else if x = 2 then 2 else 0
theorem fwz_ok {x : Int} (h : OkF x) : fwz x = fw x := by unfold OkF at h; unfold fwz fw; split <;> split <;> first | rfl | omega
theorem fwz_no {x : Int} (h : ¬ OkF x) : fwz x = 0 := by unfold OkF at h; unfold fwz; split; omega; split <;> omega

/-- What wordsOf answers. -/
def wo (m : Nat) (f : Nat → Int) : Nat := if ∀ j, j < m → OkF (f j) then sumF f m else 0

/-- What Offset answers. -/
def offZ (k m : Nat) (f : Nat → Int) (i : Int) : Int := if k = 0 ∨ i < 0 ∨ (m : Int) ≤ i then -1 else (sumF f i.toNat : Nat)

/-- The length of the slice in a slot, as a measure. -/
def slotLen (k : Nat) (a : Act) : Nat := match a.tmps.getD k undef with
  | .slice _ n _ => n
  | _ => 0

theorem ints_drop {w : World} {b o n c : Nat} {f : Nat → Int} (h : Ints w (some ⟨b, o, none⟩) (n + 1) (c + 1) f) : Ints w (some ⟨b, o + 1, none⟩) n c (fun j => f (1 + j)) :=
  ⟨by have := h.nc; omega, fun e => (by cases e), by have := h.cap; omega, fun h0 => by
    obtain ⟨b', o', h1, h3, h4⟩ := h.cells (by omega)
    injection h1 with h1
    injection h1 with e1 e2
    subst e1 e2
    refine ⟨b, o + 1, rfl, h3, fun j hj => ?_⟩
    rw [show o + 1 + j = o + (1 + j) by omega]
    exact h4 _ (by omega)⟩

theorem ints_take {w : World} {A : Option Addr} {n c k : Nat} {f : Nat → Int} (h : Ints w A n c f) (hk : k ≤ n) : Ints w A k c f :=
  ⟨by have := h.nc; omega, fun e => ⟨by have := (h.nil e).1; omega, (h.nil e).2⟩, h.cap, fun h0 => by
    obtain ⟨b', o', h1, h3, h4⟩ := h.cells (by omega)
    exact ⟨b', o', h1, h3, fun j hj => h4 j (by omega)⟩⟩
end Go.Flo
namespace Go.Proofs.Ytbmnhngkmokklaa
open Go.RowKit Go.Flo Go.Bit
set_option maxRecDepth 100000

theorem kfieldWords_any (x : Int) (w : World) : Calls Try.prog 53 #[.int .i64 x] w fun e w' => e = .returned (.int .i64 (fwz x : Nat)) ∧ w = w' := by
  by_cases h1 : x = 1
  · subst h1
    go_enter Try.func53, Try.ntmps53
    go_wp2
    go_ret
    exact ⟨rfl, rfl⟩
  · by_cases h3 : x = 3
    · subst h3
      go_enter Try.func53, Try.ntmps53
      go_wp2
      go_ret
      exact ⟨rfl, rfl⟩
    · by_cases h2 : x = 2
      · subst h2
        go_enter Try.func53, Try.ntmps53
        go_wp2
        go_ret
        exact ⟨rfl, rfl⟩
      · have HD := Lib.hid (show fwz x = 0 from fwz_no (by unfold OkF; omega))
        go_enter Try.func53, Try.ntmps53
        go_wp2
        go_ret
        exact ⟨by rw [HD.out]; rfl, rfl⟩

/-- What holds at the label of wordsOf. -/
def WoJ (w : World) (m : Nat) (f : Nat → Int) (a' : Act) (w' : World) : Prop :=
  w' = w ∧ ∃ (k n c : Nat) (A : Option Addr) (u4 u5 u6 u7 u8 u9 u10 u11 u12 u13 u14 u15 u16 u17 u18 u19 : Value),
    a' = { tmps := #[.slice A n c, undef, .int .i64 0, .int .i64 (sumF f k : Nat), u4, u5, u6, u7, u8, u9, u10, u11, u12, u13, u14, u15, u16, u17, u18, u19], defers := [] }
    ∧ k + n = m ∧ Ints w A n c (fun j => f (k + j)) ∧ ∀ j, j < k → OkF (f j)

set_option maxHeartbeats 1000000 in
theorem wordsOf_any (w : World) (A : Option Addr) (m c : Nat) (f : Nat → Int) (hm : m ≤ 1000) (h : Ints w A m c f) :
    Calls Try.prog 41 #[.slice A m c] w fun e w' => e = .returned (.int .i64 (wo m f : Nat)) ∧ w = w' := by
  have h0 : Ints w A m c (fun j => f (0 + j)) := h.congr (fun j _ => by rw [Nat.zero_add])
  clear h
  go_enter Try.func41, Try.ntmps41
  go_wp2_with fail
  refine wp_scope_round 0 (WoJ w m f) (fun a' _ => slotLen 0 a') rfl ?_ ?_
  · rintro a' w' ⟨rfl, k, n, c, A, u4, u5, u6, u7, u8, u9, u10, u11, u12, u13, u14, u15, u16, u17, u18, u19, rfl, hkn, hI, hok⟩
    have HO := Lib.hid hok
    have hs := sumF_le f k
    clear hok
    match n, hI with
    | 0, hI =>
      have HD := Lib.hid (show wo m f = sumF f k by rw [show m = k by omega]; exact if_pos HO.out)
      clear hI
      go_wp2_with fail
      apply jump_ret
      go_ret
      exact ⟨by rw [HD.out]; rfl, rfl⟩
    | n + 1, hI =>
      obtain ⟨b, o, rfl, hb, hc⟩ := hI.cells (by omega)
      have c0 := hc 0 (by omega)
      have hw := kfieldWords_any (f k) w'
      have hnc := hI.nc
      have hcc := hI.cap
      match c, hI, hnc, hcc with
      | c + 1, hI, hnc, hcc =>
      have HI := Lib.hid hI
      have hsucc : sumF f (k + 1) = sumF f k + fw (f k) := rfl
      have HS := Lib.hid hsucc
      clear hc hI hsucc
      rw [Nat.add_zero] at c0
      by_cases hF : OkF (f k)
      case neg =>
        rw [fwz_no hF] at hw
        have HD := Lib.hid (show wo m f = 0 from if_neg (fun hx => hF (hx k (by omega))))
        clear hF
        go_wp2_with fail
        (with_reducible refine hw.mono ?_)
        rintro e w'' ⟨rfl, rfl⟩
        go_wp2_with fail
        apply jump_ret
        go_ret
        exact ⟨by rw [HD.out]; rfl, rfl⟩
      rw [fwz_ok hF] at hw
      have HF := Lib.hid hF
      have hfw : fw (f k) = 1 ∨ fw (f k) = 2 := by unfold fw; split <;> omega
      generalize fw (f k) = q at *
      have hq0 : ((q : Int) == 0) = false := by simp; omega
      clear hF
      by_cases hc0 : c = 0
      · subst hc0
        obtain rfl : n = 0 := by omega
        go_wp2_with fail
        (with_reducible refine hw.mono ?_)
        rintro e w'' ⟨rfl, rfl⟩
        go_wp2_with fail
        go_step3
        apply jump_goto
        refine ⟨⟨rfl, k + 1, _, _, _, _, _, _, _, _, _, _, _, _, _, _, _, _, _, _, _, by rw [HS.out]; rfl, by omega, ?_, ?_⟩, ?_⟩
        · exact ⟨by omega, fun e => (by cases e), by omega, fun h => by omega⟩
        · exact fun j hj => by
            rcases Nat.lt_or_ge j k with h | h
            · exact HO.out j h
            · rw [show j = k by omega]; exact HF.out
        · simp [slotLen]
      · go_wp2_with fail
        (with_reducible refine hw.mono ?_)
        rintro e w'' ⟨rfl, rfl⟩
        go_wp2_with fail
        go_step3
        apply jump_goto
        refine ⟨⟨rfl, k + 1, _, _, _, _, _, _, _, _, _, _, _, _, _, _, _, _, _, _, _, by rw [HS.out]; rfl, by omega, ?_, ?_⟩, ?_⟩
        · exact (ints_drop HI.out).congr (fun j _ => by rw [show k + (1 + j) = k + 1 + j by omega])
        · exact fun j hj => by
            rcases Nat.lt_or_ge j k with h | h
            · exact HO.out j h
            · rw [show j = k by omega]; exact HF.out
        · simp [slotLen]
  · intro hfirst
    go_wp2_with fail
    go_step3
    rename_i hK
    exact hK _ _ (hfirst _ _ ⟨rfl, 0, m, c, A, _, _, _, _, _, _, _, _, _, _, _, _, _, _, _, _, rfl, by omega, h0, fun j hj => by omega⟩)

theorem kwds_wo {m : Nat} {f : Nat → Int} (h1 : 1 ≤ m) (h2 : m ≤ 15) : kwds m f = wo m f := by
  unfold kwds wo
  by_cases h : ∀ j, j < m → OkF (f j)
  · rw [if_pos h, if_pos ⟨h1, h2, h⟩]
  · rw [if_neg h, if_neg (fun k => h k.2.2)]

theorem kwords_any (w : World) (A : Option Addr) (m c : Nat) (f : Nat → Int) (h : Ints w A m c f) :
    Calls Try.prog 28 #[.agg #[.slice A m c]] w fun e w' => e = .returned (.int .i64 (kwds m f : Nat)) ∧ Keep [] w w' := by
  have k1 : Keep [] w (w.alloc (.cells #[.slice A m c] 47)) := Keep.alloc _ _
  have hI := h.keep k1
  have hcc := h.cap
  have hnc := h.nc
  clear h
  by_cases c1 : m = 0
  · subst c1
    rw [show kwds 0 f = 0 from if_neg (by omega)]
    go_enter Try.func28, Try.ntmps28
    go_wp2
    go_ret
    exact ⟨rfl, k1⟩
  by_cases c2 : m ≤ 15
  case neg =>
    rw [show kwds m f = 0 from if_neg (by omega)]
    go_enter Try.func28, Try.ntmps28
    go_wp2
    go_ret
    exact ⟨rfl, k1⟩
  rw [kwds_wo (by omega) c2]
  have hw := wordsOf_any _ A m c f (by omega) hI
  have c3 : ((m : Int) == 0) = false := by simp; omega
  have c4 : decide ((15 : Int) < m) = false := by simp; omega
  clear hI
  go_enter Try.func28, Try.ntmps28
  go_wp2_with fail
  (with_reducible refine hw.mono ?_)
  rintro e w3 ⟨rfl, rfl⟩
  go_wp2
  go_ret
  exact ⟨rfl, k1⟩

theorem kmay_any (w : World) (A : Option Addr) (m c : Nat) (f : Nat → Int) (h : Ints w A m c f) :
    Calls Try.prog 33 #[.agg #[.slice A m c]] w fun e w' => e = .returned (.bool (decide (MayK m f))) ∧ Keep [] w w' := by
  have k1 : Keep [] w (w.alloc (.cells #[.slice A m c] 47)) := Keep.alloc _ _
  have hk := kwords_any (w.alloc (.cells #[.slice A m c] 47)) A m c f (h.keep k1)
  clear h
  have hM := kwds_may m f
  have hL := kwds_le m f
  obtain ⟨q, hq⟩ : ∃ q, kwds m f = q := ⟨_, rfl⟩
  rw [hq] at hk hM hL
  have HM := Lib.hid hM
  clear hM
  by_cases c1 : 0 < q
  · by_cases c2 : q ≤ 16
    · rw [show decide (MayK m f) = true from decide_eq_true (HM.out.1 ⟨c1, c2⟩)]
      go_enter Try.func33, Try.ntmps33
      go_wp2_with fail
      (with_reducible refine hk.mono ?_)
      rintro e w3 ⟨rfl, k3⟩
      go_wp2
      go_ret
      exact ⟨ret_bool (by simp; omega), k1.trans k3⟩
    · rw [show decide (MayK m f) = false from decide_eq_false (fun hx => c2 (HM.out.2 hx).2)]
      go_enter Try.func33, Try.ntmps33
      go_wp2_with fail
      (with_reducible refine hk.mono ?_)
      rintro e w3 ⟨rfl, k3⟩
      go_wp2
      go_ret
      exact ⟨ret_bool (by simp; omega), k1.trans k3⟩
  · rw [show decide (MayK m f) = false from decide_eq_false (fun hx => c1 (HM.out.2 hx).1)]
    obtain rfl : q = 0 := by omega
    go_enter Try.func33, Try.ntmps33
    go_wp2_with fail
    (with_reducible refine hk.mono ?_)
    rintro e w3 ⟨rfl, k3⟩
    go_wp2
    go_ret
    exact ⟨rfl, k1.trans k3⟩

theorem kwds_fields {m : Nat} {f : Nat → Int} (h : kwds m f ≠ 0) : m ≤ 15 ∧ ∀ j, j < m → OkF (f j) := by
  unfold kwds at h
  split at h
  · rename_i h2; exact h2.2
  · omega

set_option maxHeartbeats 1000000 in
theorem koffset_any (w : World) (A : Option Addr) (m c : Nat) (f : Nat → Int) (i : Int) (h : Ints w A m c f) :
    Calls Try.prog 37 #[.agg #[.slice A m c], .int .i64 i] w fun e w' => e = .returned (.int .i64 (offZ (kwds m f) m f i)) ∧ Keep [] w w' := by
  have k1 : Keep [] w (w.alloc (.cells #[.slice A m c] 47)) := Keep.alloc _ _
  have hb := Blk.new w 47 #[.slice A m c]
  have hI := h.keep k1
  have hk := kwords_any (w.alloc (.cells #[.slice A m c] 47)) A m c f hI
  have hcc := h.cap
  have hnc := h.nc
  clear h
  by_cases c1 : i < 0
  · rw [show offZ (kwds m f) m f i = -1 from if_pos (by omega)]
    clear hk hI hb
    go_enter Try.func37, Try.ntmps37
    go_wp2
    go_ret
    exact ⟨rfl, k1⟩
  by_cases c2 : (m : Int) ≤ i
  · rw [show offZ (kwds m f) m f i = -1 from if_pos (by omega)]
    clear hk hI hb
    go_enter Try.func37, Try.ntmps37
    go_wp2
    go_ret
    exact ⟨rfl, k1⟩
  by_cases c3 : kwds m f = 0
  · rw [show offZ (kwds m f) m f i = -1 from if_pos (by omega)]
    rw [c3] at hk
    clear hI hb c3
    go_enter Try.func37, Try.ntmps37
    go_wp2_with fail
    (with_reducible refine hk.mono ?_)
    rintro e w3 ⟨rfl, k3⟩
    go_wp2
    go_ret
    exact ⟨rfl, k1.trans k3⟩
  obtain ⟨n, rfl⟩ : ∃ n : Nat, i = n := ⟨i.toNat, by omega⟩
  obtain ⟨hm, hF⟩ := kwds_fields c3
  have HD := Lib.hid (show offZ (kwds m f) m f (n : Int) = ((wo n f : Nat) : Int) by
    unfold offZ wo
    rw [if_neg (by omega), if_pos (fun j hj => hF j (by omega)), Int.toNat_natCast])
  generalize kwds m f = q at *
  have hq0 : ((q : Int) == 0) = false := by simp; omega
  have hno : n ≤ m := by omega
  have HI := Lib.hid (ints_take hI hno)
  clear hI hF c3
  go_enter Try.func37, Try.ntmps37
  go_wp2_with fail
  (with_reducible refine hk.mono ?_)
  rintro e w3 ⟨rfl, k3⟩
  have hb3 := hb.keep k3 (by simp)
  have q0 := (hb3.cell 0).trans (show _ = some (Value.slice A m c) from rfl)
  have hw := wordsOf_any w3 A n c f (by omega) (HI.out.keep k3)
  clear hb hb3
  go_wp2_with fail
  (with_reducible refine hw.mono ?_)
  rintro e w4 ⟨rfl, rfl⟩
  go_wp2
  go_ret
  exact ⟨by rw [HD.out]; rfl, k1.trans k3⟩
end Go.Proofs.Ytbmnhngkmokklaa
