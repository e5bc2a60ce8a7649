/-
  KindBack walked. No conditions but what came in.
-/
import Derived.Test.YtolighoceecheaaKnd4
import Derived.Test.YtolighoceecheaaGrow
namespace Go.Proofs.Ytolighoceecheaa
open Go.RowKit Go.Flo Go.Bit
set_option maxRecDepth 100000

/-- A kind's word is read as it was. -/
theorem kparse_back {m : Nat} {f : Nat → Int} (hM : MayK m f) (w : World) : Calls Try.prog 21 #[.int .u64 (kw m f : Nat)] w fun e w' =>
    ∃ A c, e = .returned (.tuple #[.agg #[.slice A m c], .bool true]) ∧ Ints w' A m c f ∧ Keep [] w w' := by
  have hm := hM.2.1
  have hf : ∀ j, j < m → Fld (f j) := fun j hj => (hM.2.2.1 j hj).fld
  have h1 := kw_pm (f := f) hm
  have h2 : ∀ j, j < m → pf (kw m f) j = f j := fun j hj => kw_pf hm hf hj
  have hs : ∀ k, k ≤ m → sumF (pf (kw m f)) k = sumF f k := by
    intro k
    induction k with
    | zero => intro _; rfl
    | succ k ih => intro hk; rw [sumF, sumF, ih (by omega), h2 k (by omega)]
  have hR : RPk (kw m f) := by
    refine ⟨?_, kw_up hm hf⟩
    rw [h1]
    exact ⟨hM.1, hm, fun j hj => by rw [h2 j hj]; exact hM.2.2.1 j hj, by rw [hs m (Nat.le_refl _)]; exact hM.2.2.2⟩
  refine (kparse_any (kw m f) (by have := kw_lt hm hf; omega) w).mono ?_
  rintro e w' (⟨_, A, c, rfl, h3, _, h4⟩ | ⟨hn, _⟩)
  · rw [h1] at h3
    exact ⟨A, c, by rw [h1], h3.congr h2, h4⟩
  · exact absurd hR hn

def BkRel (w : World) (m : Nat) (f : Nat → Int) (x y : Value) (wr : World) : Prop := ∃ j : Nat, j ≤ m ∧ y = .int .i64 j ∧ x = .int .i64 (sumF f j : Nat) ∧ Keep [] w wr

set_option maxHeartbeats 2000000 in
theorem walk_kback (w : World) (A : Option Addr) (m c : Nat) (f : Nat → Int) (h : Ints w A m c f) :
    Calls Try.prog 5 #[.slice A m c] w fun e w' => e = .returned (.bool true) ∧ Keep [] w w' := by
  by_cases c1 : 100 < m
  · have c1' : (100 : Int) < m := by omega
    clear h
    go_enter Try.func5, Try.ntmps5
    go_wp2_with fail
    (with_reducible refine (awake8_any _).mono ?_)
    rintro e w4 ⟨rfl, k4⟩
    go_wp2
    go_ret
    exact ⟨rfl, k4⟩
  have c1' : ¬ (100 : Int) < m := by omega
  have k1 : Keep [] w (w.alloc (.cells #[.slice A m c] 25)) := Keep.alloc _ _
  have HB := Lib.hid (Blk.new w 25 #[.slice A m c])
  have HI := Lib.hid (h.keep k1)
  have hnc := h.nc
  have hcc := h.cap
  clear h
  have hM := kmay_any _ A m c f HI.out
  have hW := fun W (hk : Keep [] (w.alloc (.cells #[.slice A m c] 25)) W) => kword_any W A m c f (HI.out.keep hk)
  by_cases d1 : MayK m f
  case neg =>
    rw [show decide (MayK m f) = false from decide_eq_false d1] at hM
    rw [show kwz m f = 0 from if_neg d1] at hW
    have HM := Lib.hid hM
    have HW := Lib.hid hW
    clear hM hW d1
    go_enter Try.func5, Try.ntmps5
    go_wp2_with fail
    (with_reducible refine HM.out.mono ?_)
    rintro e w3 ⟨rfl, k3⟩
    have q0 := ((HB.out.keep k3 (by simp)).cell 0).trans (show _ = some (Value.slice A m c) from rfl)
    go_wp2_with fail
    (with_reducible refine (HW.out _ k3).mono ?_)
    rintro e w4 ⟨rfl, k4⟩
    clear q0
    go_wp2_with fail
    (with_reducible refine (awake8_any _).mono ?_)
    rintro e w5 ⟨rfl, k5⟩
    go_wp2
    go_ret
    exact ⟨rfl, ((k1.trans k3).trans k4).trans k5⟩
  have hm := d1.2.1
  have hm1 := d1.1
  have hz := fun W (hk : Keep [] (w.alloc (.cells #[.slice A m c] 25)) W) => kzero_any W A m c f hm (HI.out.keep hk)
  have hws := fun W (hk : Keep [] (w.alloc (.cells #[.slice A m c] 25)) W) => kwords_any W A m c f (HI.out.keep hk)
  have hk0 : kwds m f = sumF f m := if_pos ⟨d1.1, d1.2.1, d1.2.2.1⟩
  have hof : ∀ j : Nat, j < m → ∀ W (hk : Keep [] (w.alloc (.cells #[.slice A m c] 25)) W), Calls Try.prog 9 #[.agg #[.slice A m c], .int .i64 (j : Nat)] W fun e w' => e = .returned (.int .i64 (sumF f j : Nat)) ∧ Keep [] W w' := by
    intro j hj W hk
    have := koffset_any W A m c f j (HI.out.keep hk)
    rwa [show offZ (kwds m f) m f (j : Int) = ((sumF f j : Nat) : Int) by
      unfold offZ
      have := sumF_ge f m
      rw [if_neg (by omega), Int.toNat_natCast]] at this
  have hft : ∀ j : Nat, j < m → ∀ W (hk : Keep [] (w.alloc (.cells #[.slice A m c] 25)) W), Calls Try.prog 24 #[.agg #[.slice A m c], .int .i64 (j : Nat), .agg #[.int .i64 (zk f j), .int .i64 0, .int .u64 0, .int .u64 0, .int .i64 0]] W fun e w' => e = .returned (.bool true) ∧ Keep [] W w' := by
    intro j hj W hk
    refine kfits_yes W A m c j f _ _ _ _ _ (HI.out.keep hk) hj ?_
    have := d1.2.2.1 j hj
    unfold OkF at this
    unfold zk
    split
    · exact Or.inl rfl
    · exact Or.inr ⟨rfl, by omega⟩
  rw [hk0] at hws
  rw [show decide (MayK m f) = true from decide_eq_true d1] at hM
  rw [show kwz m f = kw m f from if_pos d1] at hW
  have hpb := fun W => kparse_back d1 W
  have hsm := d1.2.2.2
  have hcs : ∀ W (hk : Keep [] (w.alloc (.cells #[.slice A m c] 25)) W) A' c', Ints W A' m c' f → Calls Try.prog 19 #[.agg #[.slice A m c], .agg #[.slice A' m c']] W fun e w' => e = .returned (.bool true) ∧ Keep [] W w' := by
    intro W hk A' c' hI
    have := ksame_any W A A' m c m c' f f (HI.out.keep hk) hI
    rwa [show decide (SameI m f m f) = true from decide_eq_true ⟨rfl, fun _ _ => rfl⟩] at this
  have hokf := d1.2.2.1
  obtain ⟨X, hX⟩ : ∃ X, kw m f = X := ⟨_, rfl⟩
  rw [hX] at hW hpb
  have HM := Lib.hid hM
  have HW := Lib.hid hW
  have HZ := Lib.hid hz
  have HWS := Lib.hid hws
  have HOF := Lib.hid hof
  have HFT := Lib.hid hft
  have HPB := Lib.hid hpb
  have HCS := Lib.hid hcs
  have ho0 : ∀ W (hk : Keep [] (w.alloc (.cells #[.slice A m c] 25)) W), Calls Try.prog 9 #[.agg #[.slice A m c], .int .i64 0] W fun e w' => e = .returned (.int .i64 1) ∧ Keep [] W w' := fun W hk => hof 0 (by omega) W hk
  have HO0 := Lib.hid ho0
  have HOK := Lib.hid hokf
  have HSM := Lib.hid hsm
  clear hM hW hz hws hk0 hof ho0 hft hpb hcs d1 hX hokf hsm
  go_enter Try.func5, Try.ntmps5
  go_wp2_with fail
  (with_reducible refine HM.out.mono ?_)
  rintro e w3 ⟨rfl, k3⟩
  have q0 := ((HB.out.keep k3 (by simp)).cell 0).trans (show _ = some (Value.slice A m c) from rfl)
  go_wp2_with fail
  (with_reducible refine (HW.out _ k3).mono ?_)
  rintro e w4 ⟨rfl, k4⟩
  clear q0
  go_wp2_with fail
  (with_reducible refine (HPB.out _).mono ?_)
  rintro e w5 ⟨A2, c2, rfl, hI2, k5⟩
  have k05 := (k3.trans k4).trans k5
  have ka : Keep [] w5 (w5.alloc (.cells #[.slice A2 m c2] 25)) := Keep.alloc _ _
  have HB2 := Lib.hid (Blk.new w5 25 #[.slice A2 m c2])
  have q1 := ((HB.out.keep k05 (by simp)).cell 0).trans (show _ = some (Value.slice A m c) from rfl)
  have hq : w.heap.size < w5.heap.size := (HB.out.keep k05 (by simp)).lt
  have hcs := HCS.out _ (k05.trans ka) A2 c2 (hI2.keep ka)
  clear k3 k4 k5 hI2
  go_wp2_with fail
  (with_reducible refine hcs.mono ?_)
  rintro e w6 ⟨rfl, k6⟩
  have k06 := (k05.trans ka).trans k6
  clear q1 hcs hq ka k05 k6 HB2
  have q2 := ((HB.out.keep k06 (by simp)).cell 0).trans (show _ = some (Value.slice A m c) from rfl)
  go_wp2_with fail
  (with_reducible refine (HO0.out _ k06).mono ?_)
  rintro e w7 ⟨rfl, k7⟩
  have k07 := k06.trans k7
  clear q2 k06 k7
  have q3 := ((HB.out.keep k07 (by simp)).cell 0).trans (show _ = some (Value.slice A m c) from rfl)
  go_wp2_with fail
  (with_reducible refine (HZ.out _ k07).mono ?_)
  rintro e w8 ⟨g, rfl, hR, _, k8⟩
  have k08 := k07.trans k8
  have HR := Lib.hid hR
  clear q3 k07 k8 hR
  go_wp2_with fail
  go_loopw [7, 53] (fun x y wr => BkRel w8 m f x y wr) (fun _ y _ => m - (intOf y).toNat)
  case atStart => exact ⟨0, by omega, rfl, rfl, Keep.refl _ _⟩
  case round =>
  obtain ⟨j, hj, rfl, rfl, hK⟩ := hrel
  have k0r := k08.trans hK
  have hs := sumF_le f j
  by_cases hlt : j < m
  case neg =>
    obtain rfl : j = m := by omega
    have q4 := ((HB.out.keep k0r (by simp)).cell 0).trans (show _ = some (Value.slice A j c) from rfl)
    have hws := HWS.out _ k0r
    have hsm := HSM.out
    generalize sumF f j = s at *
    have hss : ((s : Int) == (s : Int)) = true := by simp
    go_wp2_with fail
    (with_reducible refine hws.mono ?_)
    rintro e w9 ⟨rfl, k9⟩
    clear q4 hws
    go_wp2_with fail
    (with_reducible refine (awake8_any _).mono ?_)
    rintro e w10 ⟨rfl, k10⟩
    go_wp2
    go_ret
    exact ⟨rfl, ((k1.trans k0r).trans k9).trans k10⟩
  obtain ⟨b, o, rfl, hb, hc⟩ := (HI.out.keep k0r).cells (by omega)
  have cj := hc j hlt
  have hRr := HR.out.keep hK (by simp)
  have hc0 := hRr.cell (i := j * 5) (by omega)
  have hc1 := hRr.cell (i := j * 5 + 1) (by omega)
  have hc2 := hRr.cell (i := j * 5 + 2) (by omega)
  have hc3 := hRr.cell (i := j * 5 + 3) (by omega)
  have hc4 := hRr.cell (i := j * 5 + 4) (by omega)
  rw [show zc (zk f) (j * 5) = .int .i64 (zk f j) by unfold zc; simp] at hc0
  rw [show zc (zk f) (j * 5 + 1) = .int .i64 0 by unfold zc; rw [if_neg (by omega), if_pos (by omega)]] at hc1
  rw [show zc (zk f) (j * 5 + 2) = .int .u64 0 by unfold zc; rw [if_neg (by omega), if_neg (by omega)]] at hc2
  rw [show zc (zk f) (j * 5 + 3) = .int .u64 0 by unfold zc; rw [if_neg (by omega), if_neg (by omega)]] at hc3
  rw [show zc (zk f) (j * 5 + 4) = .int .i64 0 by unfold zc; rw [if_neg (by omega), if_pos (by omega)]] at hc4
  have hbk := ((HB.out.keep k0r (by simp)).cell 0).trans (show _ = some (Value.slice (some ⟨b, o, none⟩) m c) from rfl)
  have g0 : ∀ x : KW wr, _ := fun x => KW.cell hbk x
  have z0 : ∀ x : KW wr, _ := fun x => KW.cell hc0 x
  have z1 : ∀ x : KW wr, _ := fun x => KW.cell hc1 x
  have z2 : ∀ x : KW wr, _ := fun x => KW.cell hc2 x
  have z3 : ∀ x : KW wr, _ := fun x => KW.cell hc3 x
  have z4 : ∀ x : KW wr, _ := fun x => KW.cell hc4 x
  have G1 := Lib.hid (fun x : KW wr => KW.call (HOF.out j hlt x.w (k0r.trans x.hk)))
  have G2 := Lib.hid (fun x : KW wr => KW.call (HFT.out j hlt x.w (k0r.trans x.hk)))
  have hsucc : sumF f (j + 1) = sumF f j + fw (f j) := rfl
  have HS := Lib.hid hsucc
  have HK := Lib.hid hK
  clear hc hRr hc0 hc1 hc2 hc3 hc4 hbk hsucc hK k0r
  generalize zk f j = v at *
  generalize hsj : sumF f j = s at *
  have hss : ((s : Int) == (s : Int)) = true := by simp
  by_cases h2 : f j = 2
  · have HE := Lib.hid (show fw (f j) = 2 by rw [h2]; rfl)
    rw [h2] at cj
    clear h2
    go_wp2_with fail
    refine wp_region_grow (by kernel_rfl) (by kernel_rfl) ?_
    repeat (first | go_big_quiet_skip | (go_big_quiet_want; go_big_quiet_op; first | go_big_quiet_on | go_big_quiet_call ((first | (go_at_call 9; with_reducible exact G1.out _) | (go_at_call 24; with_reducible exact G2.out _)))))
    refine wpQuiet_nil ?_
    rintro _ ⟨x, rfl⟩
    go_wp2
    go_roundw
    case rel => exact ⟨j + 1, by omega, by go_num, by rw [HS.out, HE.out]; go_num, HK.out.trans x.hk⟩
    case measure => simp [intOf]; omega
  · have HE := Lib.hid (show fw (f j) = 1 from if_neg h2)
    have h2' : (f j == 2) = false := by simpa using h2
    clear h2
    go_wp2_with fail
    refine wp_region_grow (by kernel_rfl) (by kernel_rfl) ?_
    repeat (first | go_big_quiet_skip | (go_big_quiet_want; go_big_quiet_op; first | go_big_quiet_on | go_big_quiet_call ((first | (go_at_call 9; with_reducible exact G1.out _) | (go_at_call 24; with_reducible exact G2.out _)))))
    refine wpQuiet_nil ?_
    rintro _ ⟨x, rfl⟩
    go_wp2
    go_roundw
    case rel => exact ⟨j + 1, by omega, by go_num, by rw [HS.out, HE.out]; go_num, HK.out.trans x.hk⟩
    case measure => simp [intOf]; omega
end Go.Proofs.Ytolighoceecheaa
