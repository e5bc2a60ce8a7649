/-
  The document's twin of package graph: Same. No conditions but what is in memory.
-/
import Derived.Test.YtigclopkoolocaaDoorGr4
import Derived.Test.YtigclopkoolocaaDoorGrow
namespace Go.Flo
open Go.RowKit Go.Bit
noncomputable instance (a b : Gr) : Decidable (SameG a b) := Classical.propDecidable _
noncomputable instance (a b : Gr) : Decidable (AlikeG a b) := Classical.propDecidable _

/-- Two nodes are the same. -/
def SameN (x y : Nod) : Prop := x.K = y.K ∧ SameVs x.fs.length (fun j => x.fs.getD j z0) y.fs.length (fun j => y.fs.getD j z0)
theorem sameG_iff (a b : Gr) : SameG a b ↔ a.n = b.n ∧ a.roots = b.roots ∧ a.weaks = b.weaks ∧ ∀ i, i < a.n → SameN (a.at i) (b.at i) := Iff.rfl
end Go.Flo
namespace Go.Proofs.YtigclopkoolocaaDoor
open Go.RowKit Go.Flo Go.Bit
set_option maxRecDepth 100000

set_option maxHeartbeats 4000000 in
theorem rsameg_any (w : World) (A0 A1 A2 B0 B1 B2 : Option Addr) (c0 c1 c2 d0 d1 d2 : Nat) (a b : Gr) (h : GIn w A0 A1 A2 c0 c1 c2 a) (h' : GIn w B0 B1 B2 d0 d1 d2 b) :
    Calls Tryd.prog 8 #[.agg #[.slice A0 a.nodes.length c0, .slice A1 a.roots.length c1, .slice A2 a.weaks.length c2], .agg #[.slice B0 b.nodes.length d0, .slice B1 b.roots.length d1, .slice B2 b.weaks.length d2]] w fun e w' => e = .returned (.bool (decide (SameG a b))) ∧ Keep [] w w' := by
  obtain ⟨n, hn⟩ : ∃ n, a.nodes.length = n := ⟨_, rfl⟩
  obtain ⟨m, hm⟩ : ∃ m, b.nodes.length = m := ⟨_, rfl⟩
  have h1 := fun X (hk : Keep [] w X) => rsame_ints X A1 B1 c1 d1 a.roots b.roots (h.roots.keep hk) (h'.roots.keep hk)
  have h2 := fun X (hk : Keep [] w X) => rsame_ints X A2 B2 c2 d2 a.weaks b.weaks (h.weaks.keep hk) (h'.weaks.keep hk)
  have hac := h.nodes.nc
  have ham := h.nodes.cap
  have hbc := h'.nodes.nc
  have hbm := h'.nodes.cap
  rw [hn] at hac ⊢
  rw [hm] at hbc ⊢
  have HN := Lib.hid (And.intro h.nodes hn)
  have HM := Lib.hid (And.intro h'.nodes hm)
  have HE := Lib.hid (sameG_iff a b)
  have HS := Lib.hid (show SameG a b → n = m ∧ a.roots = b.roots ∧ a.weaks = b.weaks from fun e => by rw [← hn, ← hm]; exact ⟨e.1, e.2.1, e.2.2.1⟩)
  have ka : Keep [] w (w.alloc (.cells #[.slice A0 n c0, .slice A1 a.roots.length c1, .slice A2 a.weaks.length c2] 25)) := Keep.alloc _ _
  have hb1 := Blk.new w 25 #[.slice A0 n c0, .slice A1 a.roots.length c1, .slice A2 a.weaks.length c2]
  obtain ⟨w1, hw1⟩ : ∃ w1, w1 = w.alloc (.cells #[.slice A0 n c0, .slice A1 a.roots.length c1, .slice A2 a.weaks.length c2] 25) := ⟨_, rfl⟩
  rw [← hw1] at ka hb1
  have kb : Keep [] w1 (w1.alloc (.cells #[.slice B0 m d0, .slice B1 b.roots.length d1, .slice B2 b.weaks.length d2] 25)) := Keep.alloc _ _
  have hb2 := Blk.new w1 25 #[.slice B0 m d0, .slice B1 b.roots.length d1, .slice B2 b.weaks.length d2]
  have hz1 : w1.heap.size = w.heap.size + 1 := by rw [hw1]; simp
  rw [hz1] at hb2
  obtain ⟨w2, hw2⟩ : ∃ w2, w2 = w1.alloc (.cells #[.slice B0 m d0, .slice B1 b.roots.length d1, .slice B2 b.weaks.length d2] 25) := ⟨_, rfl⟩
  have hb1 := hb1.keep kb (by simp)
  rw [← hw2] at kb hb2 hb1
  have kk := ka.trans kb
  have g1 := h1 w2 kk
  have G2 := Lib.hid h2
  have HB1 := Lib.hid hb1
  have HB2 := Lib.hid hb2
  have HK := Lib.hid kk
  have HW := Lib.hid (show w2 = (w.alloc (.cells #[.slice A0 n c0, .slice A1 a.roots.length c1, .slice A2 a.weaks.length c2] 25)).alloc (.cells #[.slice B0 m d0, .slice B1 b.roots.length d1, .slice B2 b.weaks.length d2] 25) by rw [hw2, hw1])
  clear h h' h1 h2 hn hm ka kb hb1 hb2 hz1 hw1 hw2 kk
  generalize a.roots.length = n1 at *
  generalize a.weaks.length = n2 at *
  generalize b.roots.length = m1 at *
  generalize b.weaks.length = m2 at *
  by_cases c1' : n = m
  case neg =>
    have t1 : ((n : Int) == m) = false := by simp; omega
    have t2 : ((n : Int) != m) = true := by simp; omega
    have HD := Lib.hid (show decide (SameG a b) = false from decide_eq_false (fun e => c1' (HS.out e).1))
    clear g1
    go_enter Tryd.func8, Tryd.ntmps8
    go_wp2
    rw [← HW.out]
    go_ret
    exact ⟨by rw [HD.out]; rfl, HK.out⟩
  subst c1'
  have t1 : ((n : Int) == n) = true := by simp
  have t2 : ((n : Int) != n) = false := by simp
  by_cases c2' : a.roots = b.roots
  case neg =>
    rw [decide_eq_false c2'] at g1
    have HD := Lib.hid (show decide (SameG a b) = false from decide_eq_false (fun e => c2' (HS.out e).2.1))
    clear c2'
    go_enter Tryd.func8, Tryd.ntmps8
    go_wp2_with fail
    rw [← HW.out]
    (with_reducible refine g1.mono ?_)
    rintro e w3 ⟨rfl, k3⟩
    go_wp2
    go_ret
    exact ⟨by rw [HD.out]; rfl, HK.out.trans k3⟩
  rw [decide_eq_true c2'] at g1
  by_cases c3' : a.weaks = b.weaks
  case neg =>
    rw [decide_eq_false c3'] at G2
    have HD := Lib.hid (show decide (SameG a b) = false from decide_eq_false (fun e => c3' (HS.out e).2.2))
    clear c2' c3'
    go_enter Tryd.func8, Tryd.ntmps8
    go_wp2_with fail
    rw [← HW.out]
    (with_reducible refine g1.mono ?_)
    rintro e w3 ⟨rfl, k3⟩
    have x2 := ((HB1.out.keep k3 (by simp)).cell 2).trans (show _ = some (Value.slice A2 n2 c2) from rfl)
    have y2 := ((HB2.out.keep k3 (by simp)).cell 2).trans (show _ = some (Value.slice B2 m2 d2) from rfl)
    have g2 := G2.out w3 (HK.out.trans k3)
    go_wp2_with fail
    (with_reducible refine g2.mono ?_)
    rintro e w4 ⟨rfl, k4⟩
    go_wp2
    go_ret
    exact ⟨by rw [HD.out]; rfl, (HK.out.trans k3).trans k4⟩
  rw [decide_eq_true c3'] at G2
  have HC := Lib.hid (And.intro c2' c3')
  clear c2' c3'
  go_enter Tryd.func8, Tryd.ntmps8
  go_wp2_with fail
  rw [← HW.out]
  (with_reducible refine g1.mono ?_)
  rintro e w3 ⟨rfl, k3⟩
  have x2 := ((HB1.out.keep k3 (by simp)).cell 2).trans (show _ = some (Value.slice A2 n2 c2) from rfl)
  have y2 := ((HB2.out.keep k3 (by simp)).cell 2).trans (show _ = some (Value.slice B2 m2 d2) from rfl)
  have g2 := G2.out w3 (HK.out.trans k3)
  go_wp2_with fail
  (with_reducible refine g2.mono ?_)
  rintro e w4 ⟨rfl, k4⟩
  clear g1 g2 x2 y2
  have x0 := ((HB1.out.keep (k3.trans k4) (by simp)).cell 0).trans (show _ = some (Value.slice A0 n c0) from rfl)
  have K4 := Lib.hid (HK.out.trans (k3.trans k4))
  have HB4 := Lib.hid (HB2.out.keep (k3.trans k4) (by simp))
  clear k3 k4
  go_wp2
  clear x0
  go_loopw [33] (fun x wr => ∃ k : Nat, k ≤ n ∧ x = .int .i64 k ∧ (∀ i, i < k → SameN (a.at i) (b.at i)) ∧ Keep [] w4 wr) (fun x _ => n - (RowKit.intOf x).toNat)
  case atStart => exact ⟨0, by omega, rfl, fun i hi => by omega, Keep.refl _ _⟩
  case round =>
  obtain ⟨k, hk, rfl, hok, hK⟩ := hrel
  have HO := Lib.hid (And.intro hok hK)
  by_cases hkt : k < n
  case neg =>
    obtain rfl : k = n := by omega
    have HD := Lib.hid (show decide (SameG a b) = true from decide_eq_true (HE.out.2 ⟨(show a.nodes.length = b.nodes.length by rw [HN.out.2, HM.out.2]), HC.out.1, HC.out.2, fun i hi => hok i (by rw [← HN.out.2]; exact hi)⟩))
    clear hok hK
    go_wp2
    go_ret
    exact ⟨by rw [HD.out]; rfl, K4.out.trans HO.out.2⟩
  have hKr := K4.out.trans hK
  obtain ⟨bA, oA, rfl, hbA, hcA⟩ := (HN.out.1.keep hKr).cells (by rw [HN.out.2]; omega)
  obtain ⟨bB, oB, rfl, hbB, hcB⟩ := (HM.out.1.keep hKr).cells (by rw [HM.out.2]; omega)
  obtain ⟨AF, cF, e0, e1, hvF⟩ := hcA k (by rw [HN.out.2]; exact hkt)
  obtain ⟨BF, dF, f0, f1, hvG⟩ := hcB k (by rw [HM.out.2]; exact hkt)
  have hfa : (a.nodes.getD k nod0) = a.at k := rfl
  have hfb : (b.nodes.getD k nod0) = b.at k := rfl
  rw [hfa] at e0 e1 hvF
  rw [hfb] at f0 f1 hvG
  have y0 := ((HB4.out.keep hK (by simp)).cell 0).trans (show _ = some (Value.slice (some ⟨bB, oB, none⟩) n d0) from rfl)
  have hst : ¬ SameN (a.at k) (b.at k) → decide (SameG a b) = false := fun e => decide_eq_false (fun e2 => e ((HE.out.1 e2).2.2.2 k (show k < a.nodes.length by rw [HN.out.2]; exact hkt)))
  have hgo : SameN (a.at k) (b.at k) → ∀ i, i < k + 1 → SameN (a.at i) (b.at i) := fun e i hi => by
    rcases Nat.lt_or_ge i k with h | h
    · exact hok i h
    · rw [show i = k by omega]; exact e
  obtain ⟨X, hX⟩ : ∃ X, a.at k = X := ⟨_, rfl⟩
  obtain ⟨Y, hY⟩ : ∃ Y, b.at k = Y := ⟨_, rfl⟩
  rw [hX] at e0 e1 hvF hst hgo
  rw [hY] at f0 f1 hvG hst hgo
  obtain ⟨XK, xf⟩ := X
  obtain ⟨YK, yf⟩ := Y
  dsimp only at e0 e1 hvF f0 f1 hvG
  have ka : Keep [] wr (wr.alloc (.cells #[.int .i64 XK, .slice AF xf.length cF] 33)) := Keep.alloc _ _
  have f0a := (ka.cell (p := ⟨bB, _, none⟩) hbB (by simp)).trans f0
  have f1a := (ka.cell (p := ⟨bB, _, none⟩) hbB (by simp)).trans f1
  have hby := (HB4.out.keep hK (by simp)).lt
  have ya := (ka.cell (p := ⟨w.heap.size + 1, 0, none⟩) hby (by simp)).trans y0
  have hsv := fun Z (hk : Keep [] wr Z) => rsvs_any Z AF BF xf.length cF yf.length dF _ _ (hvF.keep hk) (hvG.keep hk)
  have HST := Lib.hid (And.intro hst (And.intro hgo (hK.trans ka)))
  have hka := ka
  clear hcA hcB hfa hfb hvF hvG hX hY hst hgo hok hK hKr
  by_cases c4' : XK = YK
  case neg =>
    have t3 : (XK == YK) = false := by simpa using c4'
    have t4 : (XK != YK) = true := by simpa using c4'
    have HD := Lib.hid (HST.out.1 (fun e => c4' e.1))
    clear hsv c4'
    go_upto_region 6 with fail
    go_cut [33, 58] from 33 to 59 (fun s33 s58 wx => s33 = .int .i64 k ∧ s58 = .bool true ∧ Keep [] wr wx)
    case first =>
      go_wp2_with fail
      go_quiet (fail)
      go_wp2_with fail
      go_meet
      exact ⟨rfl, rfl, hka.trans (Keep.dr (Dr.drewN _ _))⟩
    case rest =>
    obtain ⟨rfl, rfl, k6⟩ := hcut
    have K6 := Lib.hid (HO.out.2.trans k6)
    clear k6 e0 e1 f0 f1 f0a f1a y0 ya ka hka
    go_wp2
    go_ret
    exact ⟨by rw [HD.out]; rfl, K4.out.trans K6.out⟩
  subst c4'
  have t3 : (XK == XK) = true := by simp
  have t4 : (XK != XK) = false := by simp
  obtain ⟨ok, hk2⟩ : ∃ ok, decide (SameVs xf.length (fun j => xf.getD j z0) yf.length (fun j => yf.getD j z0)) = ok := ⟨_, rfl⟩
  rw [hk2] at hsv
  have HF := Lib.hid (show ok = false → decide (SameG a b) = false from fun e => HST.out.1 (fun e2 => of_decide_eq_false (hk2.trans e) e2.2))
  have HT := Lib.hid (show ok = true → ∀ i, i < k + 1 → SameN (a.at i) (b.at i) from fun e => HST.out.2.1 ⟨rfl, of_decide_eq_true (hk2.trans e)⟩)
  have HSV := Lib.hid hsv
  clear hk2 hsv HST
  generalize xf.length = xn at *
  generalize yf.length = yn at *
  go_upto_region 6 with fail
  go_cut [33, 58] from 33 to 59 (fun s33 s58 wx => s33 = .int .i64 k ∧ s58 = .bool (!ok) ∧ Keep [] wr wx)
  case first =>
    go_wp2_with fail
    have q0 := fun x => KW.cell f0a x
    have q1 := fun x => KW.cell f1a x
    have qy := fun x => KW.cell ya x
    have hbN := Blk.new wr 33 #[.int .i64 XK, .slice AF xn cF]
    have q2 := fun x => KW.cell ((hbN.cell 0).trans (show _ = some (Value.int .i64 XK) from rfl)) x
    have q3 := fun x => KW.cell ((hbN.cell 1).trans (show _ = some (Value.slice AF xn cF) from rfl)) x
    have HSK := Lib.hid (fun x : KW (wr.alloc (.cells #[.int .i64 XK, .slice AF xn cF] 33)) => KW.call (HSV.out x.w (hka.trans x.hk)))
    have HKA := Lib.hid hka
    have hn0 : n = 0 → False := fun e => by omega
    clear hbN HO HN HM HE HS HB1 HB2 HB4 HC HW HK K4 G2 HF HT HSV hb1 ka e0 e1 f0 f1 f0a f1a y0 ya hka
    refine wp_region_grow (by kernel_rfl) (by kernel_rfl) ?_
    repeat (first | go_big_quiet_skip | (go_big_quiet_want; go_big_quiet_op; first | go_big_quiet_on | go_big_quiet_call ((first | (go_at_call 19; exact HSK.out _)))))
    refine wpQuiet_nil ?_
    rintro _ ⟨x, rfl⟩
    go_wp2_with fail
    go_meet
    exact ⟨rfl, rfl, HKA.out.trans x.hk⟩
  case rest =>
  obtain ⟨rfl, rfl, k6⟩ := hcut
  have K6 := Lib.hid (HO.out.2.trans k6)
  clear k6 e0 e1 f0 f1 f0a f1a y0 ya ka hka
  cases ok with
  | false =>
    have HD := Lib.hid (HF.out rfl)
    go_wp2
    go_ret
    exact ⟨by rw [HD.out]; rfl, K4.out.trans K6.out⟩
  | true =>
    have HD := Lib.hid (HT.out rfl)
    go_wp2
    go_roundw
    case rel => exact ⟨k + 1, by omega, by go_num, HD.out, K6.out⟩
    case measure => simp [RowKit.intOf]; omega
end Go.Proofs.YtigclopkoolocaaDoor
