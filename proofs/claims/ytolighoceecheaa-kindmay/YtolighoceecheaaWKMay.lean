/-
  KindMay walked. No conditions but what came in.
-/
import Derived.Test.YtolighoceecheaaKnd4
import Derived.Test.YtolighoceecheaaGrow
import Derived.Test.YtolighoceecheaaWKApa
import Derived.Deep.RegionHeld3
namespace Go.Proofs.Ytolighoceecheaa
open Go.RowKit Go.Flo Go.Bit
set_option maxRecDepth 100000

def MyRel (w3 : World) (B : Nat) (f : Nat → Int) (m : Nat) (x y : Value) (wr : World) : Prop :=
  ∃ j : Nat, j ≤ m ∧ y = .int .i64 j ∧ wr.ownsRow B 3 1 x (rfs f j).length ((rfs f j).map (fun i => Value.int .i64 (i : Nat))) ∧ Keep [] w3 wr

set_option maxHeartbeats 4000000 in
theorem walk_kmay (w : World) (A A' : Option Addr) (m c m' c' : Nat) (f f' : Nat → Int) (i : Int) (h : Ints w A m c f) (h' : Ints w A' m' c' f') :
    Calls Try.prog 3 #[.slice A m c, .slice A' m' c', .int .i64 i] w fun e w' => e = .returned (.bool true) ∧ Keep [] w w' := by
  by_cases c1 : 100 < m
  · have c1' : (100 : Int) < m := by omega
    clear h h'
    go_enter Try.func3, Try.ntmps3
    go_wp2_with fail
    (with_reducible refine (awake8_any _).mono ?_)
    rintro e w4 ⟨rfl, k4⟩
    go_wp2
    go_ret
    exact ⟨rfl, k4⟩
  by_cases c2 : 100 < m'
  · have c1' : ¬ (100 : Int) < m := by omega
    have c2' : (100 : Int) < m' := by omega
    clear h h'
    go_enter Try.func3, Try.ntmps3
    go_wp2_with fail
    (with_reducible refine (awake8_any _).mono ?_)
    rintro e w4 ⟨rfl, k4⟩
    go_wp2
    go_ret
    exact ⟨rfl, k4⟩
  have c1' : ¬ (100 : Int) < m := by omega
  have c2' : ¬ (100 : Int) < m' := by omega
  obtain ⟨hB2, hB1, k2⟩ := two8 w #[.slice A m c] #[.slice A' m' c'] 25 25 _ rfl
  have HB := Lib.hid (And.intro hB1 hB2)
  have HI := Lib.hid (And.intro (h.keep k2) (h'.keep k2))
  have K2 := Lib.hid k2
  have hnc := h.nc
  have hcc := h.cap
  clear h h' hB1 hB2 k2
  obtain ⟨ii, hii, hz0, hz1, hz2⟩ := info_of intparts
  have hsz2 : (((w.alloc (.cells #[.slice A m c] 25)).alloc (.cells #[.slice A' m' c'] 25))).heap.size = w.heap.size + 2 := by simp
  have hqw : ∀ W, Keep [] ((w.alloc (.cells #[.slice A m c] 25)).alloc (.cells #[.slice A' m' c'] 25)) W → W.cell? ⟨w.heap.size, 0, none⟩ = some (.slice A m c) ∧ W.cell? ⟨w.heap.size + 1, 0, none⟩ = some (.slice A' m' c') := fun W hk => ⟨((HB.out.1.keep hk (by simp)).cell 0).trans (show _ = some (Value.slice A m c) from rfl), ((HB.out.2.keep hk (by simp)).cell 0).trans (show _ = some (Value.slice A' m' c') from rfl)⟩
  have HQ := Lib.hid hqw
  have HOS := Lib.hid (fun (j : Int) W (hk : Keep [] ((w.alloc (.cells #[.slice A m c] 25)).alloc (.cells #[.slice A' m' c'] 25)) W) => koffset_any W A m c f j (HI.out.1.keep hk))
  have HOR := Lib.hid (fun (j : Int) W (hk : Keep [] ((w.alloc (.cells #[.slice A m c] 25)).alloc (.cells #[.slice A' m' c'] 25)) W) => roffset_any W A m c f j (HI.out.1.keep hk))
  have HSZ := Lib.hid hsz2
  clear hqw hsz2
  go_enter Try.func3, Try.ntmps3
  go_wp2_with fail
  go_loopw [9, 27] (fun x y wr => MyRel ((w.alloc (.cells #[.slice A m c] 25)).alloc (.cells #[.slice A' m' c'] 25)) (w.heap.size + 2) f m x y wr) (fun _ y _ => m - (intOf y).toNat)
  case atStart => exact ⟨0, by omega, rfl, World.ownsRow_nil _ _ _ _, Keep.refl _ _⟩
  case round =>
  obtain ⟨j, hj, rfl, hown, hK⟩ := hrel
  by_cases hlt : j < m
  case pos =>
    obtain ⟨b, o, rfl, hb, hc⟩ := (HI.out.1.keep hK).cells (by omega)
    have cj := hc j hlt
    clear hc
    by_cases h3 : f j = 3
    case neg =>
      have hne : (f j == 3) = false := by simpa using h3
      have HR := Lib.hid (show rfs f (j + 1) = rfs f j from if_neg h3)
      have HH := Lib.hid (And.intro hown hK)
      clear hown h3
      have g5 : ∀ x : KW wr, _ := fun x => KW.cell (HQ.out _ hK).1 x
      have G1 := Lib.hid (fun x : KW wr => KW.call (HOS.out j x.w (hK.trans x.hk)))
      have G2 := Lib.hid (fun x : KW wr => KW.call (HOR.out j x.w (hK.trans x.hk)))
      generalize offZ (kwds m f) m f (j : Int) = v at *
      clear hK
      go_wp2_with fail
      refine wp_region_grow (by kernel_rfl) (by kernel_rfl) ?_
      repeat (first | go_big_quiet_skip | (go_big_quiet_want; go_big_quiet_op; first | go_big_quiet_on | go_big_quiet_call ((first | (go_at_call 9; with_reducible exact G1.out _) | (go_at_call 10; with_reducible exact G2.out _)))))
      refine wpQuiet_nil ?_
      rintro _ ⟨x, rfl⟩
      go_wp2
      go_roundw
      case rel => exact ⟨j + 1, by omega, by go_num, by rw [HR.out]; exact owns_kept HH.out.1 x.hk, HH.out.2.trans x.hk⟩
      case measure => simp [intOf]; omega
    have HR := Lib.hid (show rfs f (j + 1) = rfs f j ++ [j] from if_pos h3)
    rw [h3] at cj
    have hl := rfs_len f j
    have hsz := hK.size
    have ka : Keep [] wr (wr.alloc (.cells #[.int .i64 (j : Nat)] 3)) := Keep.alloc _ _
    have HO := Lib.hid (hown.alloc (.cells #[.int .i64 (j : Nat)] 3))
    have HNW := Lib.hid (one_new6 wr (.int .i64 (j : Nat)) 3)
    have HKA := Lib.hid (hK.trans ka)
    have hsw : w.heap.size + 2 ≤ wr.heap.size := by have := HSZ.out; omega
    clear hown hK h3 ka hsz
    go_wp2_with (at_builtin; refine wpList_append_own_at _ rfl (.tmp 34) (.tmp 36) 22 rfl (w.heap.size + 2) 3 ii (.int .i64 0) 1 8 Try.underlying22 hii hz0 hz1 hz2 rfl (by omega) _ (rfs f j).length ((rfs f j).map (fun i => Value.int .i64 (i : Nat))) rfl HO.out ⟨wr.heap.size, 0, none⟩ 1 1 [.int .i64 (j : Nat)] rfl ?c1 HNW.out ?c3 ?c4 ?c5 ?c6 ?_)
    case c1 => rfl
    case c3 => intro z hz; simp at hz; subst hz; rfl
    case c4 => unfold maxLen; omega
    case c5 => omega
    case c6 => simp; omega
    intro v' wq hown hgrow hnil hblk
    have hk4 := grown_keep HKA.out (by have := HSZ.out; omega) HO.out hgrow
    have hown' : wq.ownsRow (w.heap.size + 2) 3 1 v' (rfs f (j + 1)).length ((rfs f (j + 1)).map (fun i => Value.int .i64 (i : Nat))) := by rw [HR.out]; simpa using hown
    have HH := Lib.hid (And.intro hown' hk4)
    clear hown hown' hgrow hnil hblk HKA HNW HO
    have g5 : ∀ x : KW wq, _ := fun x => KW.cell (HQ.out _ hk4).1 x
    have G1 := Lib.hid (fun x : KW wq => KW.call (HOS.out j x.w (hk4.trans x.hk)))
    have G2 := Lib.hid (fun x : KW wq => KW.call (HOR.out j x.w (hk4.trans x.hk)))
    generalize offZ (kwds m f) m f (j : Int) = v at *
    clear hk4
    go_wp2_with fail
    refine wp_region_grow (by kernel_rfl) (by kernel_rfl) ?_
    repeat (first | go_big_quiet_skip | (go_big_quiet_want; go_big_quiet_op; first | go_big_quiet_on | go_big_quiet_call ((first | (go_at_call 9; with_reducible exact G1.out _) | (go_at_call 10; with_reducible exact G2.out _)))))
    refine wpQuiet_nil ?_
    rintro _ ⟨x, rfl⟩
    go_wp2
    go_roundw
    case rel => exact ⟨j + 1, by omega, by go_num, owns_kept HH.out.1 x.hk, HH.out.2.trans x.hk⟩
    case measure => simp [intOf]; omega
  obtain rfl : j = m := by omega
  rw [rfs_map] at hown
  obtain ⟨A9, c9, rfl, hI9, _⟩ := owns_ints hown
  have hn9 := rfs_len f j
  have h7 := fun W (hk : Keep [] wr W) => krefs_any W A j c f (by omega) (HI.out.1.keep (hK.trans hk))
  unfold RefPost at h7
  generalize (rfs f j).length = n9 at *
  have hqw : ∀ W, Keep [] wr W → W.cell? ⟨w.heap.size, 0, none⟩ = some (.slice A j c) ∧ W.cell? ⟨w.heap.size + 1, 0, none⟩ = some (.slice A' m' c') := fun W hk => HQ.out W (hK.trans hk)
  have q0 := hqw _ (Keep.refl _ _)
  have q1 := q0.1
  have q2 := q0.2
  have HQW := Lib.hid hqw
  have h1 := fun W (hk : Keep [] wr W) => kmay_any W A j c f (HI.out.1.keep (hK.trans hk))
  have h2 := fun W (hk : Keep [] wr W) => rmayKind_any W A j c f (HI.out.1.keep (hK.trans hk))
  generalize decide (MayK j f) = b1 at *
  have h3 := fun W (hk : Keep [] wr W) => kwords_any W A j c f (HI.out.1.keep (hK.trans hk))
  have h4 := fun W (hk : Keep [] wr W) => kindWords_any W A j c f (HI.out.1.keep (hK.trans hk))
  have h5 := fun W (hk : Keep [] wr W) => HOS.out i W (hK.trans hk)
  have h6 := fun W (hk : Keep [] wr W) => HOR.out i W (hK.trans hk)
  generalize offZ (kwds j f) j f i = v1 at *
  generalize kwds j f = n1 at *
  have h8 := fun W (hk : Keep [] wr W) AA cc (hA : Ints W AA n9 cc (rff f j)) => sameInts_any W AA A9 n9 cc n9 c9 (rff f j) (rff f j) hA (hI9.keep hk)
  have h9 := fun W (hk : Keep [] wr W) => kword_any W A j c f (HI.out.1.keep (hK.trans hk))
  have h10 := fun W (hk : Keep [] wr W) => rkindWord_any W A j c f (HI.out.1.keep (hK.trans hk))
  generalize kwz j f = X at *
  have h11 := fun W (hk : Keep [] wr W) => ksame_any W A A' j c m' c' f f' (HI.out.1.keep (hK.trans hk)) (HI.out.2.keep (hK.trans hk))
  have h12 := fun W (hk : Keep [] wr W) => sameKind_any W A A' j c m' c' f f' (HI.out.1.keep (hK.trans hk)) (HI.out.2.keep (hK.trans hk))
  generalize decide (SameI j f m' f') = b2 at *
  have h13 := fun W (hk : Keep [] wr W) => ksame_any W A A j c j c f f (HI.out.1.keep (hK.trans hk)) (HI.out.1.keep (hK.trans hk))
  rw [show decide (SameI j f j f) = true from decide_eq_true ⟨rfl, fun _ _ => rfl⟩] at h13
  rw [show decide (SameI n9 (rff f j) n9 (rff f j)) = true from decide_eq_true ⟨rfl, fun _ _ => rfl⟩] at h8
  have H1 := Lib.hid h1
  have H2 := Lib.hid h2
  have H3 := Lib.hid h3
  have H4 := Lib.hid h4
  have H5 := Lib.hid h5
  have H6 := Lib.hid h6
  have H7 := Lib.hid h7
  have H8 := Lib.hid h8
  have H9 := Lib.hid h9
  have H10 := Lib.hid h10
  have H11 := Lib.hid h11
  have H12 := Lib.hid h12
  have H13 := Lib.hid h13
  have K := Lib.hid (K2.out.trans hK)
  clear hqw q0 h1 h2 h3 h4 h5 h6 h7 h8 h9 h10 h11 h12 h13 hI9 hown hK
  go_wp2_with fail
  go_region_held3 (fun w' => w'.cell? ⟨w.heap.size, 0, none⟩ = some (.slice A j c) ∧ w'.cell? ⟨w.heap.size + 1, 0, none⟩ = some (.slice A' m' c')) (first | exact qW | exact ⟨q1, q2⟩ | assumption) (first
      | (go_at_call 11; (with_reducible refine (H1.out _ (by first | assumption | exact Keep.drew _ | exact Keep.refl _ _)).mono ?_); rintro e w' ⟨rfl, k⟩; have KK : Keep [] wr w' := Keep.trans (by first | assumption | exact Keep.drew _ | exact Keep.refl _ _) k; have qW := HQW.out _ KK)
      | (go_at_call 12; (with_reducible refine (H2.out _ (by first | assumption | exact Keep.drew _ | exact Keep.refl _ _)).mono ?_); rintro e w' ⟨rfl, k⟩; have KK : Keep [] wr w' := Keep.trans (by first | assumption | exact Keep.drew _ | exact Keep.refl _ _) k; have qW := HQW.out _ KK)
      | (go_at_call 13; (with_reducible refine (H3.out _ (by first | assumption | exact Keep.drew _ | exact Keep.refl _ _)).mono ?_); rintro e w' ⟨rfl, k⟩; have KK : Keep [] wr w' := Keep.trans (by first | assumption | exact Keep.drew _ | exact Keep.refl _ _) k; have qW := HQW.out _ KK)
      | (go_at_call 14; (with_reducible refine (H4.out _ (by first | assumption | exact Keep.drew _ | exact Keep.refl _ _)).mono ?_); rintro e w' ⟨rfl, k⟩; have KK : Keep [] wr w' := Keep.trans (by first | assumption | exact Keep.drew _ | exact Keep.refl _ _) k; have qW := HQW.out _ KK)
      | (go_at_call 9; (with_reducible refine (H5.out _ (by first | assumption | exact Keep.drew _ | exact Keep.refl _ _)).mono ?_); rintro e w' ⟨rfl, k⟩; have KK : Keep [] wr w' := Keep.trans (by first | assumption | exact Keep.drew _ | exact Keep.refl _ _) k; have qW := HQW.out _ KK)
      | (go_at_call 10; (with_reducible refine (H6.out _ (by first | assumption | exact Keep.drew _ | exact Keep.refl _ _)).mono ?_); rintro e w' ⟨rfl, k⟩; have KK : Keep [] wr w' := Keep.trans (by first | assumption | exact Keep.drew _ | exact Keep.refl _ _) k; have qW := HQW.out _ KK)
      | (go_at_call 16; (with_reducible refine (H7.out _ (by first | assumption | exact Keep.drew _ | exact Keep.refl _ _)).mono ?_); rintro e w' ⟨AA, cc, rfl, hIA, _, k⟩; have KK : Keep [] wr w' := Keep.trans (by first | assumption | exact Keep.drew _ | exact Keep.refl _ _) k; have qW := HQW.out _ KK)
      | (go_at_call 15; (with_reducible refine (H8.out _ (by first | assumption | exact Keep.drew _ | exact Keep.refl _ _) _ _ hIA).mono ?_); rintro e w' ⟨rfl, d⟩; have KK : Keep [] wr w' := Keep.trans (by first | assumption | exact Keep.drew _ | exact Keep.refl _ _) (Keep.dr (own := []) d); have qW := HQW.out _ KK)
      | (go_at_call 17; (with_reducible refine (H9.out _ (by first | assumption | exact Keep.drew _ | exact Keep.refl _ _)).mono ?_); rintro e w' ⟨rfl, k⟩; have KK : Keep [] wr w' := Keep.trans (by first | assumption | exact Keep.drew _ | exact Keep.refl _ _) k; have qW := HQW.out _ KK)
      | (go_at_call 18; (with_reducible refine (H10.out _ (by first | assumption | exact Keep.drew _ | exact Keep.refl _ _)).mono ?_); rintro e w' ⟨rfl, k⟩; have KK : Keep [] wr w' := Keep.trans (by first | assumption | exact Keep.drew _ | exact Keep.refl _ _) k; have qW := HQW.out _ KK)
      | (go_at_call 19; (first | (with_reducible refine (H11.out _ (by first | assumption | exact Keep.drew _ | exact Keep.refl _ _)).mono ?_) | (with_reducible refine (H13.out _ (by first | assumption | exact Keep.drew _ | exact Keep.refl _ _)).mono ?_)); rintro e w' ⟨rfl, k⟩; have KK : Keep [] wr w' := Keep.trans (by first | assumption | exact Keep.drew _ | exact Keep.refl _ _) k; have qW := HQW.out _ KK)
      | (go_at_call 20; (with_reducible refine (H12.out _ (by first | assumption | exact Keep.drew _ | exact Keep.refl _ _)).mono ?_); rintro e w' ⟨rfl, k⟩; have KK : Keep [] wr w' := Keep.trans (by first | assumption | exact Keep.drew _ | exact Keep.refl _ _) k; have qW := HQW.out _ KK)
      | (go_at_call 8; (with_reducible refine (awake8_any _).mono ?_); rintro e w' ⟨rfl, k⟩; have KK : Keep [] wr w' := Keep.trans (by first | assumption | exact Keep.drew _ | exact Keep.refl _ _) k; have qW := HQW.out _ KK))
  all_goals
    go_wp2_with fail
    go_ret
    exact ⟨rfl, K.out.trans (by assumption)⟩
end Go.Proofs.Ytolighoceecheaa
