/-
  KindApart walked. No conditions but what came in.
-/
import Derived.Test.YtolighoceecheaaKnd4
import Derived.Test.YtolighoceecheaaGrow
namespace Go.Flo
open Go.RowKit Go.Bit
theorem SameI.symm {m m' : Nat} {f f' : Nat → Int} (h : SameI m f m' f') : SameI m' f' m f := ⟨h.1.symm, fun j hj => (h.2 j (by rw [h.1]; exact hj)).symm⟩
/-- A kind that may be is its word. -/
theorem kw_inj {m m' : Nat} {f f' : Nat → Int} (h : MayK m f) (h' : MayK m' f') (he : kw m f = kw m' f') : SameI m f m' f' := by
  have e1 := kw_pm (f := f) h.2.1
  have e2 := kw_pm (f := f') h'.2.1
  have hm : m = m' := by rw [← e1, ← e2, he]
  refine ⟨hm, fun j hj => ?_⟩
  rw [← kw_pf h.2.1 (fun j hj => (h.2.2.1 j hj).fld) hj, he, kw_pf h'.2.1 (fun j hj => (h'.2.2.1 j hj).fld) (by omega)]
theorem kw_same {m m' : Nat} {f f' : Nat → Int} (h : SameI m f m' f') : kw m f = kw m' f' := by
  obtain ⟨rfl, h⟩ := h
  exact kw_congr h
end Go.Flo
namespace Go.Proofs.Ytolighoceecheaa
open Go.RowKit Go.Flo Go.Bit
set_option maxRecDepth 100000

/-- Two new blocks. -/
theorem two8 (w : World) (X Y : Array Value) (t1 t2 : TypeId) (w2 : World) (h : w2 = ((w.alloc (.cells X t1)).alloc (.cells Y t2))) :
    Blk w2 (w.heap.size + 1) t2 Y ∧ Blk w2 w.heap.size t1 X ∧ Keep [] w w2 := by
  subst h
  exact two w X Y t1 t2

set_option maxHeartbeats 2000000 in
theorem walk_kapart (w : World) (A A' : Option Addr) (m c m' c' : Nat) (f f' : Nat → Int) (h : Ints w A m c f) (h' : Ints w A' m' c' f') :
    Calls Try.prog 7 #[.slice A m c, .slice A' m' c'] w fun e w' => e = .returned (.bool true) ∧ Keep [] w w' := by
  by_cases c1 : 40 < m
  · have c1' : (40 : Int) < m := by omega
    clear h h'
    go_enter Try.func7, Try.ntmps7
    go_wp2_with fail
    (with_reducible refine (awake8_any _).mono ?_)
    rintro e w4 ⟨rfl, k4⟩
    go_wp2
    go_ret
    exact ⟨rfl, k4⟩
  by_cases c2 : 40 < m'
  · have c1' : ¬ (40 : Int) < m := by omega
    have c2' : (40 : Int) < m' := by omega
    clear h h'
    go_enter Try.func7, Try.ntmps7
    go_wp2_with fail
    (with_reducible refine (awake8_any _).mono ?_)
    rintro e w4 ⟨rfl, k4⟩
    go_wp2
    go_ret
    exact ⟨rfl, k4⟩
  have c1' : ¬ (40 : Int) < m := by omega
  have c2' : ¬ (40 : Int) < m' := by omega
  obtain ⟨w2, hw2⟩ : ∃ w2, w2 = ((w.alloc (.cells #[.slice A m c] 25)).alloc (.cells #[.slice A' m' c'] 25)) := ⟨_, rfl⟩
  obtain ⟨hB2, hB1, k2⟩ := two8 w _ _ _ _ w2 hw2
  have hI := h.keep k2
  have hI' := h'.keep k2
  have HB := Lib.hid (And.intro hB1 hB2)
  have HI := Lib.hid (And.intro hI hI')
  clear h h' hB1 hB2 hI hI'
  have hM := fun W (hk : Keep [] w2 W) => kmay_any W A m c f (HI.out.1.keep hk)
  have hM' := fun W (hk : Keep [] w2 W) => kmay_any W A' m' c' f' (HI.out.2.keep hk)
  by_cases d1 : MayK m f
  case neg =>
    rw [show decide (MayK m f) = false from decide_eq_false d1] at hM
    have HM := Lib.hid hM
    clear hM hM' d1
    go_enter Try.func7, Try.ntmps7
    subst hw2
    go_wp2_with fail
    (with_reducible refine (HM.out _ (Keep.refl _ _)).mono ?_)
    rintro e w3 ⟨rfl, k3⟩
    go_wp2_with fail
    (with_reducible refine (awake8_any _).mono ?_)
    rintro e w4 ⟨rfl, k4⟩
    go_wp2
    go_ret
    exact ⟨rfl, (k2.trans k3).trans k4⟩
  rw [show decide (MayK m f) = true from decide_eq_true d1] at hM
  by_cases d2 : MayK m' f'
  case neg =>
    rw [show decide (MayK m' f') = false from decide_eq_false d2] at hM'
    have HM := Lib.hid hM
    have HM' := Lib.hid hM'
    clear hM hM' d1 d2
    go_enter Try.func7, Try.ntmps7
    subst hw2
    go_wp2_with fail
    (with_reducible refine (HM.out _ (Keep.refl _ _)).mono ?_)
    rintro e w3 ⟨rfl, k3⟩
    have q0 := ((HB.out.2.keep k3 (by simp)).cell 0).trans (show _ = some (Value.slice A' m' c') from rfl)
    go_wp2_with fail
    (with_reducible refine (HM'.out _ k3).mono ?_)
    rintro e w4 ⟨rfl, k4⟩
    go_wp2_with fail
    (with_reducible refine (awake8_any _).mono ?_)
    rintro e w5 ⟨rfl, k5⟩
    go_wp2
    go_ret
    exact ⟨rfl, ((k2.trans k3).trans k4).trans k5⟩
  rw [show decide (MayK m' f') = true from decide_eq_true d2] at hM'
  have HM := Lib.hid hM
  have HM' := Lib.hid hM'
  have hW := fun W (hk : Keep [] w2 W) => kword_any W A m c f (HI.out.1.keep hk)
  have hW' := fun W (hk : Keep [] w2 W) => kword_any W A' m' c' f' (HI.out.2.keep hk)
  rw [show kwz m f = kw m f from if_pos d1] at hW
  rw [show kwz m' f' = kw m' f' from if_pos d2] at hW'
  have hS := fun W (hk : Keep [] w2 W) => ksame_any W A A' m c m' c' f f' (HI.out.1.keep hk) (HI.out.2.keep hk)
  have hS' := fun W (hk : Keep [] w2 W) => ksame_any W A' A m' c' m c f' f (HI.out.2.keep hk) (HI.out.1.keep hk)
  have hE : (((kw m f : Nat) : Int) == ((kw m' f' : Nat) : Int)) = decide (SameI m f m' f') := by
    by_cases hh : SameI m f m' f'
    · rw [decide_eq_true hh, kw_same hh]; simp
    · rw [decide_eq_false hh]
      have : kw m f ≠ kw m' f' := fun he => hh (kw_inj d1 d2 he)
      simp; omega
  rw [show decide (SameI m' f' m f) = decide (SameI m f m' f') by rw [decide_eq_decide]; exact ⟨SameI.symm, SameI.symm⟩] at hS'
  generalize decide (SameI m f m' f') = b at *
  generalize kw m f = X at *
  generalize kw m' f' = Y at *
  have HW := Lib.hid hW
  have HW' := Lib.hid hW'
  have HS := Lib.hid hS
  have HS' := Lib.hid hS'
  clear hM hM' d1 d2 hW hW' hS hS'
  cases b
  all_goals
    go_enter Try.func7, Try.ntmps7
    subst hw2
    go_wp2_with fail
    (with_reducible refine (HM.out _ (Keep.refl _ _)).mono ?_)
    rintro e w3 ⟨rfl, k3⟩
    have q0 := ((HB.out.2.keep k3 (by simp)).cell 0).trans (show _ = some (Value.slice A' m' c') from rfl)
    go_wp2_with fail
    (with_reducible refine (HM'.out _ k3).mono ?_)
    rintro e w4 ⟨rfl, k4⟩
    have hk := k3.trans k4
    have h0 := ((HB.out.1.keep hk (by simp)).cell 0).trans (show _ = some (Value.slice A m c) from rfl)
    have h1 := ((HB.out.2.keep hk (by simp)).cell 0).trans (show _ = some (Value.slice A' m' c') from rfl)
    have g0 : ∀ x : KW w4, _ := fun x => KW.cell h0 x
    have g1 : ∀ x : KW w4, _ := fun x => KW.cell h1 x
    have G1 := Lib.hid (fun x : KW w4 => KW.call (HW.out x.w (hk.trans x.hk)))
    have G2 := Lib.hid (fun x : KW w4 => KW.call (HW'.out x.w (hk.trans x.hk)))
    have G3 := Lib.hid (fun x : KW w4 => KW.call (HS.out x.w (hk.trans x.hk)))
    have G4 := Lib.hid (fun x : KW w4 => KW.call (HS'.out x.w (hk.trans x.hk)))
    have G5 := Lib.hid (fun x : KW w4 => KW.call (awake8_any x.w))
    clear q0
    go_wp2_with fail
    refine wp_region_grow (by kernel_rfl) (by kernel_rfl) ?_
    repeat (first | go_big_quiet_skip | (go_big_quiet_want; go_big_quiet_op; first | go_big_quiet_on | go_big_quiet_call ((first | (go_at_call 17; first | with_reducible exact G1.out _ | with_reducible exact G2.out _) | (go_at_call 19; first | with_reducible exact G3.out _ | with_reducible exact G4.out _) | (go_at_call 8; exact G5.out _)))))
    refine wpQuiet_nil ?_
    rintro _ ⟨x, rfl⟩
    go_wp2
    go_ret
    exact ⟨rfl, (k2.trans hk).trans x.hk⟩
end Go.Proofs.Ytolighoceecheaa
