/-
  The program's package graph: isPlace, mayRoots, mayFields, May. No conditions but what is in memory.
-/
import Derived.Test.YtigclopkoolocaaDoorGr3
namespace Go.Proofs.YtigclopkoolocaaDoor
open Go.RowKit Go.Flo Go.Bit
set_option maxRecDepth 100000

theorem isPlace_any (A0 A1 A2 : Option Addr) (n n1 n2 c0 c1 c2 : Nat) (hn : (n : Int) ≤ 9223372036854775807) (i : Int) (w : World) :
    Calls Tryd.prog 39 #[.agg #[.slice A0 n c0, .slice A1 n1 c1, .slice A2 n2 c2], .int .i64 i] w fun e w' => e = .returned (.bool (decide (0 ≤ i ∧ i < n))) ∧ Keep [] w w' := by
  obtain ⟨b, hb⟩ : ∃ b, decide (0 ≤ i ∧ i < n) = b := ⟨_, rfl⟩
  rw [hb]
  have ka : Keep [] w (w.alloc (.cells #[.slice A0 n c0, .slice A1 n1 c1, .slice A2 n2 c2] 25)) := Keep.alloc _ _
  by_cases h0 : i < 0
  · have h0' : ¬ 0 ≤ i := by omega
    have HD := Lib.hid (show b = false from hb ▸ decide_eq_false (by omega))
    clear hb
    go_enter Tryd.func39, Tryd.ntmps39
    go_wp2
    go_ret
    exact ⟨by rw [HD.out]; rfl, ka⟩
  have h0' : 0 ≤ i := by omega
  by_cases h1 : i < n
  · have HD := Lib.hid (show b = true from hb ▸ decide_eq_true (by omega))
    clear hb
    go_enter Tryd.func39, Tryd.ntmps39
    go_wp2
    go_ret
    exact ⟨by rw [HD.out]; rfl, ka⟩
  · have HD := Lib.hid (show b = false from hb ▸ decide_eq_false (by omega))
    clear hb
    go_enter Tryd.func39, Tryd.ntmps39
    go_wp2
    go_ret
    exact ⟨by rw [HD.out]; rfl, ka⟩

set_option maxHeartbeats 1000000 in
theorem mayRoots_any (w : World) (A0 A1 A2 A : Option Addr) (n n1 n2 c0 c1 c2 c : Nat) (hn : n ≤ 9223372036854775807) (l : List Int) (h : IntL w A c l) :
    Calls Tryd.prog 35 #[.agg #[.slice A0 n c0, .slice A1 n1 c1, .slice A2 n2 c2], .slice A l.length c] w fun e w' => e = .returned (.bool (decide (∀ r ∈ l, MayI n r))) ∧ Keep [] w w' := by
  obtain ⟨b, hb⟩ : ∃ b, decide (∀ r ∈ l, MayI n r) = b := ⟨_, rfl⟩
  rw [hb]
  have HN := Lib.hid (show ¬ (∀ r ∈ l, MayI n r) → b = false from fun e => by rw [← hb, decide_eq_false e])
  have HY := Lib.hid (show (∀ r ∈ l, MayI n r) → b = true from fun e => by rw [← hb, decide_eq_true e])
  clear hb
  obtain ⟨q, hq⟩ : ∃ q, l.length = q := ⟨_, rfl⟩
  have hlc := h.nc
  have hlm := h.cap
  rw [hq] at hlc ⊢
  have HL := Lib.hid (And.intro h hq)
  have ka : Keep [] w (w.alloc (.cells #[.slice A0 n c0, .slice A1 n1 c1, .slice A2 n2 c2] 25)) := Keep.alloc _ _
  have hbx := Blk.new w 25 #[.slice A0 n c0, .slice A1 n1 c1, .slice A2 n2 c2]
  have hip := fun i W => isPlace_any A0 A1 A2 n n1 n2 c0 c1 c2 (by omega) i W
  obtain ⟨w1, hw1⟩ : ∃ w1, w1 = w.alloc (.cells #[.slice A0 n c0, .slice A1 n1 c1, .slice A2 n2 c2] 25) := ⟨_, rfl⟩
  rw [← hw1] at ka hbx
  have HW := Lib.hid (And.intro hw1 (And.intro ka hbx))
  have HIP := Lib.hid hip
  clear h hq hip hw1 ka hbx
  go_enter Tryd.func35, Tryd.ntmps35
  go_wp2
  rw [← HW.out.1]
  go_loopw [9] (fun x wr => ∃ j : Nat, j ≤ q ∧ x = .int .i64 j ∧ (∀ r ∈ l.take j, MayI n r) ∧ Keep [] w1 wr) (fun x _ => q - (RowKit.intOf x).toNat)
  case atStart => exact ⟨0, by omega, rfl, by simp, Keep.refl _ _⟩
  case round =>
  obtain ⟨j, hj, rfl, hok, hK⟩ := hrel
  by_cases hlt : j < q
  case neg =>
    obtain rfl : j = q := by omega
    rw [show l.take j = l by rw [← HL.out.2]; exact List.take_length] at hok
    have HD := Lib.hid (And.intro (HY.out hok) hK)
    clear hok hK
    go_wp2
    go_ret
    exact ⟨by rw [HD.out.1]; rfl, HW.out.2.1.trans HD.out.2⟩
  obtain ⟨bl, ol, rfl, hbl, hcl⟩ := (HL.out.1.keep (HW.out.2.1.trans hK)).cells (by rw [HL.out.2]; omega)
  have cj := hcl j (by rw [HL.out.2]; exact hlt)
  have hmem : l.getD j 0 ∈ l := getD_mem (by rw [HL.out.2]; exact hlt)
  have hbad : ¬ MayI n (l.getD j 0) → b = false := fun e => HN.out fun hm => e (hm _ hmem)
  have hgood : MayI n (l.getD j 0) → ∀ r ∈ l.take (j + 1), MayI n r := fun e => mem_take_next (by rw [HL.out.2]; exact hlt) hok e
  have hbk := HW.out.2.2.keep hK (by simp)
  have x0 := (hbk.cell 0).trans (show _ = some (Value.slice A0 n c0) from rfl)
  have x1 := (hbk.cell 1).trans (show _ = some (Value.slice A1 n1 c1) from rfl)
  have x2 := (hbk.cell 2).trans (show _ = some (Value.slice A2 n2 c2) from rfl)
  have HO := Lib.hid (And.intro hbad (And.intro hgood hK))
  clear hcl hok hK hmem hbad hgood hbk
  generalize l.getD j 0 = y at *
  by_cases ym : y = -1
  · subst ym
    have HD := Lib.hid (HO.out.2.1 (by unfold MayI; omega))
    clear x0 x1 x2
    go_wp2
    go_roundw
    case rel => exact ⟨j + 1, by omega, by go_num, HD.out, HO.out.2.2⟩
    case measure => simp [RowKit.intOf]; omega
  have t1 : (y == -1) = false := by simpa using ym
  have t2 : (y != -1) = true := by simpa using ym
  have hip := HIP.out y wr
  by_cases yok : 0 ≤ y ∧ y < n
  · have HD := Lib.hid (HO.out.2.1 (by unfold MayI; omega))
    rw [decide_eq_true yok] at hip
    clear yok
    go_wp2_with fail
    (with_reducible refine hip.mono ?_)
    rintro e w4 ⟨rfl, k4⟩
    have HK := Lib.hid (HO.out.2.2.trans k4)
    clear k4 hip cj x0 x1 x2
    go_wp2
    go_roundw
    case rel => exact ⟨j + 1, by omega, by go_num, HD.out, HK.out⟩
    case measure => simp [RowKit.intOf]; omega
  · have HD := Lib.hid (HO.out.1 (by unfold MayI; omega))
    rw [decide_eq_false yok] at hip
    clear yok
    go_wp2_with fail
    (with_reducible refine hip.mono ?_)
    rintro e w4 ⟨rfl, k4⟩
    have HK := Lib.hid (HO.out.2.2.trans k4)
    clear k4 hip cj x0 x1 x2
    go_wp2
    go_ret
    exact ⟨by rw [HD.out]; rfl, HW.out.2.1.trans HK.out⟩

set_option maxHeartbeats 1000000 in
theorem mayFields_any (w : World) (A0 A1 A2 A : Option Addr) (n n1 n2 c0 c1 c2 c : Nat) (hn : n ≤ 9223372036854775807) (l : List Val) (h : Vals w A l.length c (fun j => l.getD j z0)) :
    Calls Tryd.prog 36 #[.agg #[.slice A0 n c0, .slice A1 n1 c1, .slice A2 n2 c2], .slice A l.length c] w fun e w' => e = .returned (.bool (decide (∀ v ∈ l, MayV n v))) ∧ Keep [] w w' := by
  obtain ⟨b, hb⟩ : ∃ b, decide (∀ v ∈ l, MayV n v) = b := ⟨_, rfl⟩
  rw [hb]
  have HN := Lib.hid (show ¬ (∀ v ∈ l, MayV n v) → b = false from fun e => by rw [← hb, decide_eq_false e])
  have HY := Lib.hid (show (∀ v ∈ l, MayV n v) → b = true from fun e => by rw [← hb, decide_eq_true e])
  clear hb
  obtain ⟨q, hq⟩ : ∃ q, l.length = q := ⟨_, rfl⟩
  rw [hq] at h ⊢
  have hlc := h.nc
  have hlm := h.cap
  have HL := Lib.hid (And.intro h hq)
  have ka : Keep [] w (w.alloc (.cells #[.slice A0 n c0, .slice A1 n1 c1, .slice A2 n2 c2] 25)) := Keep.alloc _ _
  have hbx := Blk.new w 25 #[.slice A0 n c0, .slice A1 n1 c1, .slice A2 n2 c2]
  have hip := fun i W => isPlace_any A0 A1 A2 n n1 n2 c0 c1 c2 (by omega) i W
  obtain ⟨w1, hw1⟩ : ∃ w1, w1 = w.alloc (.cells #[.slice A0 n c0, .slice A1 n1 c1, .slice A2 n2 c2] 25) := ⟨_, rfl⟩
  rw [← hw1] at ka hbx
  have HW := Lib.hid (And.intro hw1 (And.intro ka hbx))
  have HIP := Lib.hid hip
  clear h hq hip hw1 ka hbx
  go_enter Tryd.func36, Tryd.ntmps36
  go_wp2
  rw [← HW.out.1]
  go_loopw [9] (fun x wr => ∃ j : Nat, j ≤ q ∧ x = .int .i64 j ∧ (∀ v ∈ l.take j, MayV n v) ∧ Keep [] w1 wr) (fun x _ => q - (RowKit.intOf x).toNat)
  case atStart => exact ⟨0, by omega, rfl, by simp, Keep.refl _ _⟩
  case round =>
  obtain ⟨j, hj, rfl, hok, hK⟩ := hrel
  by_cases hlt : j < q
  case neg =>
    obtain rfl : j = q := by omega
    rw [show l.take j = l by rw [← HL.out.2]; exact List.take_length] at hok
    have HD := Lib.hid (And.intro (HY.out hok) hK)
    clear hok hK
    go_wp2
    go_ret
    exact ⟨by rw [HD.out.1]; rfl, HW.out.2.1.trans HD.out.2⟩
  obtain ⟨bF, oF, rfl, hbF, hcF⟩ := (HL.out.1.keep (HW.out.2.1.trans hK)).cells (by omega)
  obtain ⟨d0, d1, d2, d3, d4⟩ := hcF j hlt
  have hmem : l.getD j z0 ∈ l := getD_mem (by rw [HL.out.2]; exact hlt)
  have hbad : ¬ MayV n (l.getD j z0) → b = false := fun e => HN.out fun hm => e (hm _ hmem)
  have hgood : MayV n (l.getD j z0) → ∀ r ∈ l.take (j + 1), MayV n r := fun e => mem_take_next (by rw [HL.out.2]; exact hlt) hok e
  obtain ⟨V, hV⟩ : ∃ V, l.getD j z0 = V := ⟨_, rfl⟩
  rw [hV] at d0 d1 d2 d3 d4 hgood hbad
  obtain ⟨x0, x1, x2, x3, x4⟩ := V
  dsimp only at d0 d1 d2 d3 d4
  have kb : Keep [] wr (wr.alloc (.cells #[.int .i64 x0, .int .i64 x1, .int .u64 x2, .int .u64 x3, .int .i64 x4] 36)) := Keep.alloc _ _
  have hbv := Blk.new wr 36 #[.int .i64 x0, .int .i64 x1, .int .u64 x2, .int .u64 x3, .int .i64 x4]
  have hbk := (HW.out.2.2.keep hK (by simp)).keep kb (by simp)
  have hip := HIP.out x4 (wr.alloc (.cells #[.int .i64 x0, .int .i64 x1, .int .u64 x2, .int .u64 x3, .int .i64 x4] 36))
  have HD := Lib.hid (And.intro hgood (And.intro hbad (And.intro (hK.trans kb) (And.intro hip hbk))))
  clear hcF hmem hgood hbad hV hok hK kb hip hbk hbv
  by_cases y0 : x0 < 0
  · have HE := Lib.hid (HD.out.2.1 (fun e => by unfold MayV at e; dsimp only at e; omega))
    go_wp2
    go_ret
    exact ⟨by rw [HE.out]; rfl, HW.out.2.1.trans HD.out.2.2.1⟩
  by_cases y1 : 3 < x0
  · have HE := Lib.hid (HD.out.2.1 (fun e => by unfold MayV at e; dsimp only at e; omega))
    go_wp2
    go_ret
    exact ⟨by rw [HE.out]; rfl, HW.out.2.1.trans HD.out.2.2.1⟩
  by_cases y2 : x0 = 3
  case neg =>
    have y2' : (x0 == 3) = false := by simpa using y2
    have HE := Lib.hid (HD.out.1 (by unfold MayV; dsimp only; omega))
    go_wp2
    go_roundw
    case rel => exact ⟨j + 1, by omega, by go_num, HE.out, HD.out.2.2.1⟩
    case measure => simp [RowKit.intOf]; omega
  subst y2
  have hbk := HD.out.2.2.2.2
  have z0' := (hbk.cell 0).trans (show _ = some (Value.slice A0 n c0) from rfl)
  have z1' := (hbk.cell 1).trans (show _ = some (Value.slice A1 n1 c1) from rfl)
  have z2' := (hbk.cell 2).trans (show _ = some (Value.slice A2 n2 c2) from rfl)
  have hip := HD.out.2.2.2.1
  clear hbk
  by_cases yok : 0 ≤ x4 ∧ x4 < n
  · have HE := Lib.hid (HD.out.1 (by unfold MayV; dsimp only; omega))
    rw [decide_eq_true yok] at hip
    clear yok
    go_wp2_with fail
    (with_reducible refine hip.mono ?_)
    rintro e w4 ⟨rfl, k4⟩
    have HK := Lib.hid (HD.out.2.2.1.trans k4)
    clear k4 hip d0 d1 d2 d3 d4 z0' z1' z2'
    go_wp2
    go_roundw
    case rel => exact ⟨j + 1, by omega, by go_num, HE.out, HK.out⟩
    case measure => simp [RowKit.intOf]; omega
  · have HE := Lib.hid (HD.out.2.1 (fun e => by unfold MayV at e; dsimp only at e; omega))
    rw [decide_eq_false yok] at hip
    clear yok
    go_wp2_with fail
    (with_reducible refine hip.mono ?_)
    rintro e w4 ⟨rfl, k4⟩
    have HK := Lib.hid (HD.out.2.2.1.trans k4)
    clear k4 hip d0 d1 d2 d3 d4 z0' z1' z2'
    go_wp2
    go_ret
    exact ⟨by rw [HE.out]; rfl, HW.out.2.1.trans HK.out⟩
end Go.Proofs.YtigclopkoolocaaDoor
