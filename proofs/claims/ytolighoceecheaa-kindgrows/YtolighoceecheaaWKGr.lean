/-
  KindGrows walked. No conditions but what came in.
-/
import Derived.Test.YtolighoceecheaaKnd4
import Derived.Test.YtolighoceecheaaGrow
import Derived.Test.YtolighoceecheaaWKApa
import Derived.Test.YtolighoceecheaaSrc8
import Derived.Deep.RegionHeld3
namespace Go.Flo
open Go.RowKit Go.Bit

/-- A field more. -/
def apn (m : Nat) (f : Nat → Int) (x : Int) (j : Nat) : Int := if j < m then f j else x
theorem apn_at (m : Nat) (f : Nat → Int) (x : Int) : apn m f x m = x := by simp [apn]
theorem apn_lt {m j : Nat} (f : Nat → Int) (x : Int) (h : j < m) : apn m f x j = f j := by simp [apn, h]
theorem sum_apn (m : Nat) (f : Nat → Int) (x : Int) : ∀ k, k ≤ m → sumF (apn m f x) k = sumF f k
  | 0, _ => rfl
  | k + 1, h => by rw [sumF, sumF, sum_apn m f x k (by omega), apn_lt f x (by omega)]
theorem sum_apn1 (m : Nat) (f : Nat → Int) (x : Int) : sumF (apn m f x) (m + 1) = sumF f m + fw x := by rw [sumF, sum_apn m f x m (Nat.le_refl _), apn_at]
theorem may_apn {m : Nat} {f : Nat → Int} {x : Int} (h : MayK (m + 1) (apn m f x)) (h1 : 1 ≤ m) : MayK m f := by
  obtain ⟨_, h2, h3, h4⟩ := h
  rw [sum_apn1] at h4
  exact ⟨h1, by omega, fun j hj => by have := h3 j (by omega); rwa [apn_lt f x hj] at this, by omega⟩
theorem rfs_congr {f f' : Nat → Int} : ∀ k, (∀ j, j < k → f j = f' j) → rfs f k = rfs f' k
  | 0, _ => rfl
  | k + 1, h => by rw [rfs, rfs, rfs_congr k (fun j hj => h j (by omega)), h k (by omega)]
theorem rfs_apn (m : Nat) (f : Nat → Int) (x : Int) : (rfs f m).length ≤ (rfs (apn m f x) (m + 1)).length := by
  rw [rfs, rfs_congr m (fun j hj => apn_lt f x hj)]
  split <;> simp
theorem kw_apn {m : Nat} {f : Nat → Int} {x : Int} (h : MayK m f) (h' : MayK (m + 1) (apn m f x)) : kw m f ≠ kw (m + 1) (apn m f x) := by
  intro he
  have := (kw_inj h h' he).1
  omega
end Go.Flo
namespace Go.Proofs.Ytolighoceecheaa
open Go.RowKit Go.Flo Go.Bit
set_option maxRecDepth 100000

theorem map_apn (m : Nat) (f : Nat → Int) (x : Int) : (List.range m).map (iv f) ++ [.int .i64 x] = (List.range (m + 1)).map (iv (apn m f x)) := by
  rw [List.range_succ, List.map_append]
  congr 1
  · apply List.map_congr_left
    intro j hj
    simp at hj
    simp [iv, apn, hj]
  · simp [iv, apn]

theorem ints_news {w : World} {A : Option Addr} {m c : Nat} {f : Nat → Int} (h : Ints w A m c f) : ∀ ad, A = some ad → ∀ j u, ((List.range m).map (iv f))[j]? = some u → w.cell? (ad.add j) = some u := by
  intro ad hA j u hu
  have hj : j < m := by
    have := (List.getElem?_eq_some_iff.1 hu).1
    simpa using this
  have hu' : iv f j = u := by simpa [hj] using hu
  obtain ⟨b, o, e, hb, hc⟩ := h.cells (by omega)
  rw [hA] at e
  injection e with e
  subst e
  rw [addr_add0, hc j hj, ← hu']
  rfl

def GrRel (w : World) (m : Nat) (y : Value) (wr : World) : Prop := ∃ j : Nat, j ≤ m ∧ y = .int .i64 j ∧ Keep [] w wr

set_option maxHeartbeats 4000000 in
theorem walk_kgrows (w : World) (A : Option Addr) (m c : Nat) (f : Nat → Int) (a1 : Int) (h : Ints w A m c f) :
    Calls Try.prog 6 #[.slice A m c, .int .i64 a1] w fun e w' => e = .returned (.bool true) ∧ Keep [] w w' := by
  by_cases c1 : 40 < m
  · have c1' : (40 : Int) < m := by omega
    clear h
    go_enter Try.func6, Try.ntmps6
    go_wp2_with fail
    (with_reducible refine (awake8_any _).mono ?_)
    rintro e w4 ⟨rfl, k4⟩
    go_wp2
    go_ret
    exact ⟨rfl, k4⟩
  have c1' : ¬ (40 : Int) < m := by omega
  obtain ⟨ii, hii, hz0, hz1, hz2⟩ := info_of intparts
  obtain ⟨q, hq3, hq⟩ : ∃ q : Nat, q < 3 ∧ wrap64 ((IntKind.u64.wrap a1).tmod 3) = (q : Int) := slot_mod a1 3 (by omega) (by omega)
  have hnc := h.nc
  have hcc := h.cap
  have HI := Lib.hid h
  clear h
  go_enter Try.func6, Try.ntmps6
  go_wp2_with (at_builtin; refine wpList_append_src rfl (.const (.slice none 0 0)) (.tmp 20) 22 rfl w.heap.size 3 ii (.int .i64 0) 1 8 Try.underlying22 hii hz0 hz1 hz2 rfl (by omega) _ 0 [] rfl (World.ownsRow_nil _ _ _ _) A m c ((List.range m).map (iv f)) rfl (by simp) (fun e => (HI.out.nil e).1) (ints_news HI.out) (by intro u hu; simp at hu; obtain ⟨_, _, rfl⟩ := hu; rfl) (by unfold maxLen; omega) (by omega) (Nat.le_refl _) ?_)
  intro v1 w1 hown hgrow
  have k1 : Keep [] w w1 := Keep.grown hgrow (fun k _ e => by simp [Value.ownBlock] at e)
  have ka : Keep [] w1 (w1.alloc (.cells #[.int .i64 ((q : Int) + 1)] 3)) := Keep.alloc _ _
  have HO := Lib.hid (owns_kept hown ka)
  have hs1 := k1.size
  have HK := Lib.hid (k1.trans ka)
  clear hown hgrow k1 ka hq
  go_wp2_with (at_builtin; refine wpList_append_own_at _ rfl (.tmp 21) (.tmp 23) 22 rfl w.heap.size 3 ii (.int .i64 0) 1 8 Try.underlying22 hii hz0 hz1 hz2 rfl (by omega) v1 m ((List.range m).map (iv f)) rfl HO.out ⟨w1.heap.size, 0, none⟩ 1 1 [.int .i64 ((q : Int) + 1)] rfl ?c1 (one_new6 w1 (.int .i64 ((q : Int) + 1)) 3) ?c3 ?c4 ?c5 ?c6 ?_)
  case c1 => rfl
  case c3 => intro z hz; simp at hz; subst hz; rfl
  case c4 => unfold maxLen; omega
  case c5 => omega
  case c6 => simp; omega
  intro v2 w3 hown hgrow hnil hblk
  have k3 := grown_keep HK.out (Nat.le_refl _) HO.out hgrow
  rw [map_apn] at hown
  obtain ⟨A2, c2, rfl, hI2, _⟩ := owns_ints hown
  obtain ⟨x, hx⟩ : ∃ x : Int, (q : Int) + 1 = x := ⟨_, rfl⟩
  have hxo : OkF x := by unfold OkF; omega
  have hx2 : x = 2 ↔ q = 1 := by omega
  rw [hx] at hI2
  obtain ⟨hB6, hB5, k35⟩ := two8 w3 #[.slice A m c] #[.slice A2 (m + 1 : Nat) c2] 25 25 _ rfl
  obtain ⟨F, hF⟩ : ∃ F, apn m f x = F := ⟨_, rfl⟩
  rw [hF] at hI2
  have hsz3 : w.heap.size ≤ w3.heap.size := k3.size
  have HI5 := Lib.hid (And.intro ((HI.out.keep k3).keep k35) (hI2.keep k35))
  have HB := Lib.hid (And.intro hB5 hB6)
  have K05 := Lib.hid (k3.trans k35)
  have hnc2 := hI2.nc
  have hcc2 := hI2.cap
  clear hown hgrow hnil hblk hI2 hB5 hB6 k35 k3 HK HO
  have hMa := fun W (hk : Keep [] ((w3.alloc (.cells #[.slice A m c] 25)).alloc (.cells #[.slice A2 (m + 1 : Nat) c2] 25)) W) => kmay_any W A m c f (HI5.out.1.keep hk)
  have hMb := fun W (hk : Keep [] ((w3.alloc (.cells #[.slice A m c] 25)).alloc (.cells #[.slice A2 (m + 1 : Nat) c2] 25)) W) => kmay_any W A2 (m + 1) c2 F (HI5.out.2.keep hk)
  have hqa := fun W (hk : Keep [] ((w3.alloc (.cells #[.slice A m c] 25)).alloc (.cells #[.slice A2 (m + 1 : Nat) c2] 25)) W) => ((HB.out.1.keep hk (by simp)).cell 0).trans (show _ = some (Value.slice A m c) from rfl)
  have hqb := fun W (hk : Keep [] ((w3.alloc (.cells #[.slice A m c] 25)).alloc (.cells #[.slice A2 (m + 1 : Nat) c2] 25)) W) => ((HB.out.2.keep hk (by simp)).cell 0).trans (show _ = some (Value.slice A2 (m + 1) c2) from rfl)
  have HQA := Lib.hid hqa
  have HQB := Lib.hid hqb
  clear hqa hqb
  by_cases dA : MayK m f
  case neg =>
    rw [show decide (MayK m f) = false from decide_eq_false dA] at hMa
    have hm0 : MayK (m + 1) F → m = 0 := by
      intro hb
      rcases Nat.eq_zero_or_pos m with h0 | h0
      · exact h0
      · rw [← hF] at hb; exact absurd (may_apn hb h0) dA
    by_cases dB : MayK (m + 1) F
    · rw [show decide (MayK (m + 1) F) = true from decide_eq_true dB] at hMb
      obtain rfl := hm0 dB
      have HMA := Lib.hid hMa
      have HMB := Lib.hid hMb
      clear hMa hMb dA dB hm0 hF hx2 hxo
      go_wp2_with fail
      (with_reducible refine (HMA.out _ (Keep.refl _ _)).mono ?_)
      rintro e w6 ⟨rfl, k6⟩
      have q1 := HQB.out _ k6
      go_wp2_with fail
      (with_reducible refine (HMB.out _ k6).mono ?_)
      rintro e w7 ⟨rfl, k7⟩
      clear q1
      go_wp2_with fail
      (with_reducible refine (awake8_any _).mono ?_)
      rintro e w8 ⟨rfl, k8⟩
      go_wp2
      go_ret
      exact ⟨rfl, K05.out.trans ((k6.trans k7).trans k8)⟩
    · rw [show decide (MayK (m + 1) F) = false from decide_eq_false dB] at hMb
      have HMA := Lib.hid hMa
      have HMB := Lib.hid hMb
      clear hMa hMb dA dB hm0 hF hx2 hxo
      go_wp2_with fail
      (with_reducible refine (HMA.out _ (Keep.refl _ _)).mono ?_)
      rintro e w6 ⟨rfl, k6⟩
      have q1 := HQB.out _ k6
      go_wp2_with fail
      (with_reducible refine (HMB.out _ k6).mono ?_)
      rintro e w7 ⟨rfl, k7⟩
      clear q1
      go_wp2_with fail
      (with_reducible refine (awake8_any _).mono ?_)
      rintro e w8 ⟨rfl, k8⟩
      go_wp2
      go_ret
      exact ⟨rfl, K05.out.trans ((k6.trans k7).trans k8)⟩
  rw [show decide (MayK m f) = true from decide_eq_true dA] at hMa
  by_cases dB : MayK (m + 1) F
  case neg =>
    rw [show decide (MayK (m + 1) F) = false from decide_eq_false dB] at hMb
    have HMA := Lib.hid hMa
    have HMB := Lib.hid hMb
    clear hMa hMb dA dB hF hx2 hxo
    go_wp2_with fail
    (with_reducible refine (HMA.out _ (Keep.refl _ _)).mono ?_)
    rintro e w6 ⟨rfl, k6⟩
    have q1 := HQB.out _ k6
    go_wp2_with fail
    (with_reducible refine (HMB.out _ k6).mono ?_)
    rintro e w7 ⟨rfl, k7⟩
    have q2 := HQB.out _ (k6.trans k7)
    clear q1
    go_wp2_with fail
    (with_reducible refine (HMB.out _ (k6.trans k7)).mono ?_)
    rintro e w8 ⟨rfl, k8⟩
    clear q2
    go_wp2_with fail
    (with_reducible refine (awake8_any _).mono ?_)
    rintro e w9 ⟨rfl, k9⟩
    go_wp2
    go_ret
    exact ⟨rfl, K05.out.trans (((k6.trans k7).trans k8).trans k9)⟩
  rw [show decide (MayK (m + 1) F) = true from decide_eq_true dB] at hMb
  have hm := dA.2.1
  have hsm := dA.2.2.2
  have hka : kwds m f = sumF f m := if_pos ⟨dA.1, dA.2.1, dA.2.2.1⟩
  have hkb : kwds (m + 1) F = sumF f m + fw x := by
    rw [← sum_apn1 m f x, hF]
    exact if_pos ⟨dB.1, dB.2.1, dB.2.2.1⟩
  have hsF : ∀ k, k ≤ m → sumF F k = sumF f k := by rw [← hF]; exact sum_apn m f x
  have hge := sumF_ge f m
  have hWa : ∀ W (hk : Keep [] ((w3.alloc (.cells #[.slice A m c] 25)).alloc (.cells #[.slice A2 (m + 1 : Nat) c2] 25)) W), Calls Try.prog 13 #[.agg #[.slice A m c]] W fun e w' => e = .returned (.int .i64 (sumF f m : Nat)) ∧ Keep [] W w' := by
    intro W hk
    have := kwords_any W A m c f (HI5.out.1.keep hk)
    rwa [hka] at this
  have hWb : ∀ W (hk : Keep [] ((w3.alloc (.cells #[.slice A m c] 25)).alloc (.cells #[.slice A2 (m + 1 : Nat) c2] 25)) W), Calls Try.prog 13 #[.agg #[.slice A2 (m + 1 : Nat) c2]] W fun e w' => e = .returned (.int .i64 (sumF f m + fw x : Nat)) ∧ Keep [] W w' := by
    intro W hk
    have := kwords_any W A2 (m + 1) c2 F (HI5.out.2.keep hk)
    rwa [hkb] at this
  have hOa : ∀ j : Nat, j < m → ∀ W (hk : Keep [] ((w3.alloc (.cells #[.slice A m c] 25)).alloc (.cells #[.slice A2 (m + 1 : Nat) c2] 25)) W), Calls Try.prog 9 #[.agg #[.slice A m c], .int .i64 (j : Nat)] W fun e w' => e = .returned (.int .i64 (sumF f j : Nat)) ∧ Keep [] W w' := by
    intro j hj W hk
    have := koffset_any W A m c f j (HI5.out.1.keep hk)
    rwa [show offZ (kwds m f) m f (j : Int) = ((sumF f j : Nat) : Int) by
      unfold offZ
      rw [if_neg (by omega), Int.toNat_natCast]] at this
  have hOb : ∀ j : Nat, j ≤ m → ∀ W (hk : Keep [] ((w3.alloc (.cells #[.slice A m c] 25)).alloc (.cells #[.slice A2 (m + 1 : Nat) c2] 25)) W), Calls Try.prog 9 #[.agg #[.slice A2 (m + 1 : Nat) c2], .int .i64 (j : Nat)] W fun e w' => e = .returned (.int .i64 (sumF f j : Nat)) ∧ Keep [] W w' := by
    intro j hj W hk
    have := koffset_any W A2 (m + 1) c2 F j (HI5.out.2.keep hk)
    rwa [show offZ (kwds (m + 1) F) (m + 1) F (j : Int) = ((sumF f j : Nat) : Int) by
      unfold offZ
      rw [if_neg (by omega), Int.toNat_natCast, hsF j hj]] at this
  have hKa := fun W (hk : Keep [] ((w3.alloc (.cells #[.slice A m c] 25)).alloc (.cells #[.slice A2 (m + 1 : Nat) c2] 25)) W) => kword_any W A m c f (HI5.out.1.keep hk)
  have hKb := fun W (hk : Keep [] ((w3.alloc (.cells #[.slice A m c] 25)).alloc (.cells #[.slice A2 (m + 1 : Nat) c2] 25)) W) => kword_any W A2 (m + 1) c2 F (HI5.out.2.keep hk)
  rw [show kwz m f = kw m f from if_pos dA] at hKa
  rw [show kwz (m + 1) F = kw (m + 1) F from if_pos dB] at hKb
  have hne : kw m f ≠ kw (m + 1) F := by
    have := dB
    rw [← hF] at this ⊢
    exact kw_apn dA this
  have hRa := fun W (hk : Keep [] ((w3.alloc (.cells #[.slice A m c] 25)).alloc (.cells #[.slice A2 (m + 1 : Nat) c2] 25)) W) => krefs_any W A m c f (by omega) (HI5.out.1.keep hk)
  have hRb := fun W (hk : Keep [] ((w3.alloc (.cells #[.slice A m c] 25)).alloc (.cells #[.slice A2 (m + 1 : Nat) c2] 25)) W) => krefs_any W A2 (m + 1) c2 F (by omega) (HI5.out.2.keep hk)
  have hrl : (rfs f m).length ≤ (rfs F (m + 1)).length := by rw [← hF]; exact rfs_apn m f x
  have hfw : fw x = if q = 1 then 2 else 1 := by
    unfold fw
    by_cases hh : q = 1
    · rw [if_pos hh, if_pos (hx2.2 hh)]
    · rw [if_neg hh, if_neg (fun h => hh (hx2.1 h))]
  unfold RefPost at hRa hRb
  generalize (rfs f m).length = ra at *
  generalize (rfs F (m + 1)).length = rb at *
  generalize kw m f = X at *
  generalize kw (m + 1) F = Y at *
  generalize hsum : sumF f m = s at *
  generalize fw x = d at *
  have HMA := Lib.hid hMa
  have HMB := Lib.hid hMb
  have HWA := Lib.hid hWa
  have HWB := Lib.hid hWb
  have HOA := Lib.hid hOa
  have HOB := Lib.hid hOb
  have hom := hOb m (Nat.le_refl _)
  rw [hsum] at hom
  have HOM := Lib.hid hom
  have HKA := Lib.hid hKa
  have HKB := Lib.hid hKb
  have HRA := Lib.hid hRa
  have HRB := Lib.hid hRb
  have hne2 : ((X : Int) == (Y : Int)) = false := by simp; omega
  have hne3 : ((X : Int) != (Y : Int)) = true := by simp; omega
  have hrl2 : decide ((ra : Int) ≤ (rb : Int)) = true := by simp; omega
  have hrl3 : (ra : Int) ≤ (rb : Int) := by omega
  clear hMa hMb hWa hWb hOa hOb hom hKa hKb hRa hRb dA dB hF hka hkb hsF hne hx2 hxo hsum
  by_cases hq1 : q = 1
  · rw [if_pos hq1] at hfw
    subst hq1 hfw
    obtain rfl : x = 2 := by omega
    go_wp2_with fail
    (with_reducible refine (HMA.out _ (Keep.refl _ _)).mono ?_)
    rintro e w6 ⟨rfl, k6⟩
    have q1 := HQB.out _ k6
    go_wp2_with fail
    (with_reducible refine (HMB.out _ k6).mono ?_)
    rintro e w7 ⟨rfl, k7⟩
    clear q1
    have k67 := k6.trans k7
    have g5 : ∀ x : KW w7, _ := fun x => KW.cell (HQA.out _ k67) x
    have g6 : ∀ x : KW w7, _ := fun x => KW.cell (HQB.out _ k67) x
    have G1 := Lib.hid (fun x : KW w7 => KW.call (HWA.out x.w (k67.trans x.hk)))
    have G2 := Lib.hid (fun x : KW w7 => KW.call (HWB.out x.w (k67.trans x.hk)))
    have G3 := Lib.hid (fun x : KW w7 => KW.call (HOM.out x.w (k67.trans x.hk)))
    clear k6 k7
    go_wp2_with fail
    refine wp_region_grow (by kernel_rfl) (by kernel_rfl) ?_
    repeat (first | go_big_quiet_skip | (go_big_quiet_want; go_big_quiet_op; first | go_big_quiet_on | go_big_quiet_call ((first | (go_at_call 13; first | with_reducible exact G1.out _ | with_reducible exact G2.out _) | (go_at_call 9; with_reducible exact G3.out _)))))
    refine wpQuiet_nil ?_
    rintro _ ⟨x, rfl⟩
    have k8 := k67.trans x.hk
    generalize x.w = w8 at *
    clear g5 g6 G1 G2 G3 k67 x
    go_wp2_with fail
    go_loopw [70] (fun y wr => GrRel w8 m y wr) (fun y _ => m - (intOf y).toNat)
    case atStart => exact ⟨0, by omega, rfl, Keep.refl _ _⟩
    case round =>
    obtain ⟨j, hj, rfl, hK⟩ := hrel
    have k8r := k8.trans hK
    by_cases hlt : j < m
    case pos =>
      have g5 : ∀ x : KW wr, _ := fun x => KW.cell (HQA.out _ k8r) x
      have g6 : ∀ x : KW wr, _ := fun x => KW.cell (HQB.out _ k8r) x
      have G1 := Lib.hid (fun x : KW wr => KW.call (HOA.out j hlt x.w (k8r.trans x.hk)))
      have G2 := Lib.hid (fun x : KW wr => KW.call (HOB.out j hj x.w (k8r.trans x.hk)))
      generalize sumF f j = sj at *
      go_wp2_with fail
      refine wp_region_grow (by kernel_rfl) (by kernel_rfl) ?_
      repeat (first | go_big_quiet_skip | (go_big_quiet_want; go_big_quiet_op; first | go_big_quiet_on | go_big_quiet_call ((go_at_call 9; first | with_reducible exact G1.out _ | with_reducible exact G2.out _))))
      refine wpQuiet_nil ?_
      rintro _ ⟨x, rfl⟩
      go_wp2
      go_roundw
      case rel => exact ⟨j + 1, by omega, by go_num, hK.trans x.hk⟩
      case measure => simp [intOf]; omega
    obtain rfl : j = m := by omega
    have hqw : ∀ W, Keep [] wr W → W.cell? ⟨w3.heap.size, 0, none⟩ = some (.slice A j c) ∧ W.cell? ⟨w3.heap.size + 1, 0, none⟩ = some (.slice A2 (j + 1) c2) := fun W hk => ⟨HQA.out _ (k8r.trans hk), HQB.out _ (k8r.trans hk)⟩
    have H1 := Lib.hid (fun W (hk : Keep [] wr W) => HKA.out W (k8r.trans hk))
    have H2 := Lib.hid (fun W (hk : Keep [] wr W) => HKB.out W (k8r.trans hk))
    have H3 := Lib.hid (fun W (hk : Keep [] wr W) => HRA.out W (k8r.trans hk))
    have H4 := Lib.hid (fun W (hk : Keep [] wr W) => HRB.out W (k8r.trans hk))
    have q0 := hqw _ (Keep.refl _ _)
    have q1 := q0.1
    have q2 := q0.2
    have HQW := Lib.hid hqw
    clear hqw q0
    go_wp2_with fail
    go_region_held3 (fun w' => w'.cell? ⟨w3.heap.size, 0, none⟩ = some (.slice A j c) ∧ w'.cell? ⟨w3.heap.size + 1, 0, none⟩ = some (.slice A2 (j + 1) c2)) (first | exact qW | exact ⟨q1, q2⟩ | assumption) (first
      | (go_at_call 17; (first | (with_reducible refine (H1.out _ (by first | assumption | exact Keep.drew _ | exact Keep.refl _ _)).mono ?_) | (with_reducible refine (H2.out _ (by first | assumption | exact Keep.drew _ | exact Keep.refl _ _)).mono ?_)); rintro e w' ⟨rfl, k⟩; have KK : Keep [] wr w' := Keep.trans (by first | assumption | exact Keep.drew _ | exact Keep.refl _ _) k; have qW := HQW.out _ KK)
      | (go_at_call 16; (first | (with_reducible refine (H3.out _ (by first | assumption | exact Keep.drew _ | exact Keep.refl _ _)).mono ?_) | (with_reducible refine (H4.out _ (by first | assumption | exact Keep.drew _ | exact Keep.refl _ _)).mono ?_)); rintro e w' ⟨AA, cc, rfl, _, _, k⟩; have KK : Keep [] wr w' := Keep.trans (by first | assumption | exact Keep.drew _ | exact Keep.refl _ _) k; have qW := HQW.out _ KK)
      | (go_at_call 8; (with_reducible refine (awake8_any _).mono ?_); rintro e w' ⟨rfl, k⟩; have KK : Keep [] wr w' := Keep.trans (by first | assumption | exact Keep.drew _ | exact Keep.refl _ _) k; have qW := HQW.out _ KK))
    all_goals
      go_wp2_with fail
      go_ret
      exact ⟨rfl, K05.out.trans (k8r.trans (by assumption))⟩
  · rw [if_neg hq1] at hfw
    subst hfw
    have hx2 : (x == 2) = false := by simp; omega
    have hx3 : ((q : Int) + 1 == 2) = false := by simp; omega
    go_wp2_with fail
    (with_reducible refine (HMA.out _ (Keep.refl _ _)).mono ?_)
    rintro e w6 ⟨rfl, k6⟩
    have q1 := HQB.out _ k6
    go_wp2_with fail
    (with_reducible refine (HMB.out _ k6).mono ?_)
    rintro e w7 ⟨rfl, k7⟩
    clear q1
    have k67 := k6.trans k7
    have g5 : ∀ x : KW w7, _ := fun x => KW.cell (HQA.out _ k67) x
    have g6 : ∀ x : KW w7, _ := fun x => KW.cell (HQB.out _ k67) x
    have G1 := Lib.hid (fun x : KW w7 => KW.call (HWA.out x.w (k67.trans x.hk)))
    have G2 := Lib.hid (fun x : KW w7 => KW.call (HWB.out x.w (k67.trans x.hk)))
    have G3 := Lib.hid (fun x : KW w7 => KW.call (HOM.out x.w (k67.trans x.hk)))
    clear k6 k7
    go_wp2_with fail
    refine wp_region_grow (by kernel_rfl) (by kernel_rfl) ?_
    repeat (first | go_big_quiet_skip | (go_big_quiet_want; go_big_quiet_op; first | go_big_quiet_on | go_big_quiet_call ((first | (go_at_call 13; first | with_reducible exact G1.out _ | with_reducible exact G2.out _) | (go_at_call 9; with_reducible exact G3.out _)))))
    refine wpQuiet_nil ?_
    rintro _ ⟨x, rfl⟩
    have k8 := k67.trans x.hk
    generalize x.w = w8 at *
    clear g5 g6 G1 G2 G3 k67 x
    go_wp2_with fail
    go_loopw [70] (fun y wr => GrRel w8 m y wr) (fun y _ => m - (intOf y).toNat)
    case atStart => exact ⟨0, by omega, rfl, Keep.refl _ _⟩
    case round =>
    obtain ⟨j, hj, rfl, hK⟩ := hrel
    have k8r := k8.trans hK
    by_cases hlt : j < m
    case pos =>
      have g5 : ∀ x : KW wr, _ := fun x => KW.cell (HQA.out _ k8r) x
      have g6 : ∀ x : KW wr, _ := fun x => KW.cell (HQB.out _ k8r) x
      have G1 := Lib.hid (fun x : KW wr => KW.call (HOA.out j hlt x.w (k8r.trans x.hk)))
      have G2 := Lib.hid (fun x : KW wr => KW.call (HOB.out j hj x.w (k8r.trans x.hk)))
      generalize sumF f j = sj at *
      go_wp2_with fail
      refine wp_region_grow (by kernel_rfl) (by kernel_rfl) ?_
      repeat (first | go_big_quiet_skip | (go_big_quiet_want; go_big_quiet_op; first | go_big_quiet_on | go_big_quiet_call ((go_at_call 9; first | with_reducible exact G1.out _ | with_reducible exact G2.out _))))
      refine wpQuiet_nil ?_
      rintro _ ⟨x, rfl⟩
      go_wp2
      go_roundw
      case rel => exact ⟨j + 1, by omega, by go_num, hK.trans x.hk⟩
      case measure => simp [intOf]; omega
    obtain rfl : j = m := by omega
    have hqw : ∀ W, Keep [] wr W → W.cell? ⟨w3.heap.size, 0, none⟩ = some (.slice A j c) ∧ W.cell? ⟨w3.heap.size + 1, 0, none⟩ = some (.slice A2 (j + 1) c2) := fun W hk => ⟨HQA.out _ (k8r.trans hk), HQB.out _ (k8r.trans hk)⟩
    have H1 := Lib.hid (fun W (hk : Keep [] wr W) => HKA.out W (k8r.trans hk))
    have H2 := Lib.hid (fun W (hk : Keep [] wr W) => HKB.out W (k8r.trans hk))
    have H3 := Lib.hid (fun W (hk : Keep [] wr W) => HRA.out W (k8r.trans hk))
    have H4 := Lib.hid (fun W (hk : Keep [] wr W) => HRB.out W (k8r.trans hk))
    have q0 := hqw _ (Keep.refl _ _)
    have q1 := q0.1
    have q2 := q0.2
    have HQW := Lib.hid hqw
    clear hqw q0
    go_wp2_with fail
    go_region_held3 (fun w' => w'.cell? ⟨w3.heap.size, 0, none⟩ = some (.slice A j c) ∧ w'.cell? ⟨w3.heap.size + 1, 0, none⟩ = some (.slice A2 (j + 1) c2)) (first | exact qW | exact ⟨q1, q2⟩ | assumption) (first
      | (go_at_call 17; (first | (with_reducible refine (H1.out _ (by first | assumption | exact Keep.drew _ | exact Keep.refl _ _)).mono ?_) | (with_reducible refine (H2.out _ (by first | assumption | exact Keep.drew _ | exact Keep.refl _ _)).mono ?_)); rintro e w' ⟨rfl, k⟩; have KK : Keep [] wr w' := Keep.trans (by first | assumption | exact Keep.drew _ | exact Keep.refl _ _) k; have qW := HQW.out _ KK)
      | (go_at_call 16; (first | (with_reducible refine (H3.out _ (by first | assumption | exact Keep.drew _ | exact Keep.refl _ _)).mono ?_) | (with_reducible refine (H4.out _ (by first | assumption | exact Keep.drew _ | exact Keep.refl _ _)).mono ?_)); rintro e w' ⟨AA, cc, rfl, _, _, k⟩; have KK : Keep [] wr w' := Keep.trans (by first | assumption | exact Keep.drew _ | exact Keep.refl _ _) k; have qW := HQW.out _ KK)
      | (go_at_call 8; (with_reducible refine (awake8_any _).mono ?_); rintro e w' ⟨rfl, k⟩; have KK : Keep [] wr w' := Keep.trans (by first | assumption | exact Keep.drew _ | exact Keep.refl _ _) k; have qW := HQW.out _ KK))
    all_goals
      go_wp2_with fail
      go_ret
      exact ⟨rfl, K05.out.trans (k8r.trans (by assumption))⟩
end Go.Proofs.Ytolighoceecheaa
