/-
  GraphTrims walked. Conditions: what the library's tables hold, and what is in memory.
-/
import Derived.Test.YtigclopkoolocaaDoorRt12
import Derived.Test.YtigclopkoolocaaDoorGr8
import Derived.Deep.RegionHeld3
import Derived.Deep.DeepCutAuto
namespace Go.Proofs.YtigclopkoolocaaDoor
open Go.RowKit Go.Flo Go.Bit
set_option maxRecDepth 100000

theorem trimE_may (g : Gr) : MayG (trimE g) := by
  by_cases h : MayG g
  · rw [show trimE g = trimG g from if_pos h]
    exact trim_may h
  · rw [show trimE g = ⟨[], [], []⟩ from if_neg h]
    decide

set_option maxHeartbeats 20000000 in
theorem walk_gtrims (w : World) (A0 A1 A2 B0 B1 B2 : Option Addr) (c0 c1 c2 d0 d1 d2 : Nat) (g h : Gr) (hg : GIn w A0 A1 A2 c0 c1 c2 g) (hh : GIn w B0 B1 B2 d0 d1 d2 h) (ng : GrN g) (nh : GrN h) (hT : Tabs w) :
    Calls Tryd.prog 3 #[.agg #[.slice A0 g.nodes.length c0, .slice A1 g.roots.length c1, .slice A2 g.weaks.length c2], .agg #[.slice B0 h.nodes.length d0, .slice B1 h.roots.length d1, .slice B2 h.weaks.length d2]] w fun e w' => e = .returned (.bool true) ∧ Keep [] w w' := by
  have l1 := fun W (hk : Keep [] w W) => light12_any W A0 A1 A2 c0 c1 c2 g (hg.keep hk)
  have l2 := fun W (hk : Keep [] w W) => light12_any W B0 B1 B2 d0 d1 d2 h (hh.keep hk)
  have tr := fun W (hk : Keep [] w W) hs => trim_any W A0 A1 A2 c0 c1 c2 g (hg.keep hk) hs
  have rt := fun W (hk : Keep [] w W) hs => rtrim_any W A0 A1 A2 c0 c1 c2 g (hg.keep hk) hs
  have tx := fun W (hk : Keep [] w W) hs => gtext_any W A0 A1 A2 c0 c1 c2 g (hg.keep hk) hs ng (hT.keep hk)
  have rx := fun W (hk : Keep [] w W) hs => rgtext_any W A0 A1 A2 c0 c1 c2 g (hg.keep hk) hs ng (hT.keep hk)
  have al := fun W (hk : Keep [] w W) hs hs' => alike_any W A0 A1 A2 B0 B1 B2 c0 c1 c2 d0 d1 d2 g h (hg.keep hk) (hh.keep hk) hs hs'
  have ra := fun W (hk : Keep [] w W) hs hs' => ralike_any W A0 A1 A2 B0 B1 B2 c0 c1 c2 d0 d1 d2 g h (hg.keep hk) (hh.keep hk) hs hs'
  unfold GTPost at tx rx
  unfold GrPost at tr rt
  obtain ⟨Z, hZ⟩ : ∃ Z, bs (grTE g) = Z := ⟨_, rfl⟩
  rw [hZ] at tx rx
  obtain ⟨t, ht⟩ : ∃ t, trimE g = t := ⟨_, rfl⟩
  have hmt : MayG t := by rw [← ht]; exact trimE_may g
  rw [ht] at tr rt
  have sm := fun W B0 B1 B2 d0 d1 d2 C0 C1 C2 x0 x1 x2 (h' : GIn W B0 B1 B2 d0 d1 d2 t) (h'' : GIn W C0 C1 C2 x0 x1 x2 t) => rsameg_any W B0 B1 B2 C0 C1 C2 d0 d1 d2 x0 x1 x2 t t h' h''
  rw [decide_eq_true (SameG.refl hmt)] at sm
  generalize t.nodes.length = t0 at *
  generalize t.roots.length = t1 at *
  generalize t.weaks.length = t2 at *
  obtain ⟨pa, hpa⟩ : ∃ pa, decide (AlikeG g h) = pa := ⟨_, rfl⟩
  rw [hpa] at al ra
  clear hZ ht hmt hpa
  have AW := Lib.hid awake12_any
  have hnc := hg.nodes.nc
  have hncm := hg.nodes.cap
  have hmc := hh.nodes.nc
  have hmcm := hh.nodes.cap
  have HG := Lib.hid (And.intro hg (And.intro hh (And.intro ng (And.intro nh hT))))
  clear hg hh ng nh hT
  generalize hn0 : g.nodes.length = n0 at *
  generalize hn1 : g.roots.length = n1 at *
  generalize hn2 : g.weaks.length = n2 at *
  generalize hm0 : h.nodes.length = m0 at *
  generalize hm1 : h.roots.length = m1 at *
  generalize hm2 : h.weaks.length = m2 at *
  have HL := Lib.hid (And.intro hn0 (And.intro hn1 (And.intro hn2 (And.intro hm0 (And.intro hm1 hm2)))))
  clear hn0 hn1 hn2 hm0 hm1 hm2
  have ka : Keep [] w (w.alloc (.cells #[.slice A0 n0 c0, .slice A1 n1 c1, .slice A2 n2 c2] 25)) := Keep.alloc _ _
  have hba := Blk.new w 25 #[.slice A0 n0 c0, .slice A1 n1 c1, .slice A2 n2 c2]
  obtain ⟨wa, hwa⟩ : ∃ wa, wa = w.alloc (.cells #[.slice A0 n0 c0, .slice A1 n1 c1, .slice A2 n2 c2] 25) := ⟨_, rfl⟩
  have hza : wa.heap.size = w.heap.size + 1 := by rw [hwa]; simp
  rw [← hwa] at ka hba
  have kb : Keep [] wa (wa.alloc (.cells #[.slice B0 m0 d0, .slice B1 m1 d1, .slice B2 m2 d2] 25)) := Keep.alloc _ _
  have hbj := Blk.new wa 25 #[.slice B0 m0 d0, .slice B1 m1 d1, .slice B2 m2 d2]
  obtain ⟨w1, hw1⟩ : ∃ w1, w1 = wa.alloc (.cells #[.slice B0 m0 d0, .slice B1 m1 d1, .slice B2 m2 d2] 25) := ⟨_, rfl⟩
  rw [← hw1] at kb hbj
  rw [hza] at hbj
  rw [hwa] at hw1
  have hba := hba.keep kb (by simp)
  have ka := ka.trans kb
  have hf := fun W (hk : Keep [] w1 W) => And.intro (And.intro (((hba.keep hk (by simp)).cell 0).trans (show _ = some (Value.slice A0 n0 c0) from rfl)) (And.intro (((hba.keep hk (by simp)).cell 1).trans (show _ = some (Value.slice A1 n1 c1) from rfl)) (((hba.keep hk (by simp)).cell 2).trans (show _ = some (Value.slice A2 n2 c2) from rfl))))
    (And.intro (((hbj.keep hk (by simp)).cell 0).trans (show _ = some (Value.slice B0 m0 d0) from rfl)) (And.intro (((hbj.keep hk (by simp)).cell 1).trans (show _ = some (Value.slice B1 m1 d1) from rfl)) (((hbj.keep hk (by simp)).cell 2).trans (show _ = some (Value.slice B2 m2 d2) from rfl))))
  have HF := Lib.hid hf
  have HBX := Lib.hid (And.intro hba hbj)
  have HK1 := Lib.hid ka
  have HQ1 := Lib.hid (Keep.refl [] w1)
  obtain ⟨⟨f0, f1, f2⟩, e0, e1, e2⟩ := hf w1 (Keep.refl [] w1)
  have hl1 := l1 w1 ka
  have L1 := Lib.hid l1
  have L2 := Lib.hid l2
  clear l1 l2 hf ka kb hba hbj hza hwa
  have TR := Lib.hid tr
  have RT := Lib.hid rt
  have TX := Lib.hid tx
  have RX := Lib.hid rx
  have AL := Lib.hid al
  have RA := Lib.hid ra
  have SM := Lib.hid sm
  clear tr rt tx rx al ra sm
  go_enter Tryd.func3, Tryd.ntmps3
  go_wp2_with fail
  rw [← hw1]
  clear hw1
  by_cases hp1 : Light12 g
  case neg =>
    rw [decide_eq_false hp1] at hl1
    clear hp1 f0 f1 f2 e0 e1 e2
    (with_reducible refine hl1.mono ?_)
    rintro e v9 ⟨rfl, k9⟩
    have haw := AW.out v9
    have HK := Lib.hid (HK1.out.trans k9)
    clear k9 hl1
    go_wp2_with fail
    (with_reducible refine haw.mono ?_)
    rintro e v10 ⟨rfl, k10⟩
    have HK3 := Lib.hid (HK.out.trans k10)
    clear k10 haw
    go_wp2
    go_ret
    exact ⟨rfl, HK3.out⟩
  rw [decide_eq_true hp1] at hl1
  have HP1 := Lib.hid hp1
  (with_reducible refine hl1.mono ?_)
  rintro e w2 ⟨rfl, k2⟩
  have HK2 := Lib.hid (HK1.out.trans k2)
  have HQ2 := Lib.hid (HQ1.out.trans k2)
  clear k2 hl1 hp1 f0 f1 f2 e0 e1 e2
  obtain ⟨⟨f0, f1, f2⟩, e0, e1, e2⟩ := HF.out w2 HQ2.out
  have hl2 := L2.out w2 HK2.out
  go_wp2_with fail
  by_cases hp2 : Light12 h
  case neg =>
    rw [decide_eq_false hp2] at hl2
    clear hp2 f0 f1 f2 e0 e1 e2
    (with_reducible refine hl2.mono ?_)
    rintro e v9 ⟨rfl, k9⟩
    have haw := AW.out v9
    have HK := Lib.hid (HK2.out.trans k9)
    clear k9 hl2
    go_wp2_with fail
    (with_reducible refine haw.mono ?_)
    rintro e v10 ⟨rfl, k10⟩
    have HK3 := Lib.hid (HK.out.trans k10)
    clear k10 haw
    go_wp2
    go_ret
    exact ⟨rfl, HK3.out⟩
  rw [decide_eq_true hp2] at hl2
  have HP2 := Lib.hid hp2
  (with_reducible refine hl2.mono ?_)
  rintro e w3 ⟨rfl, k3⟩
  have HK3 := Lib.hid (HK2.out.trans k3)
  have HQ3 := Lib.hid (HQ2.out.trans k3)
  clear k3 hl2 hp2 f0 f1 f2 e0 e1 e2
  obtain ⟨⟨f0, f1, f2⟩, e0, e1, e2⟩ := HF.out w3 HQ3.out
  have hs1 := HP1.out.slim
  have hs2 := HP2.out.slim
  have HS := Lib.hid (And.intro hs1 hs2)
  have hzz : (Z.toList == Z.toList) = true := by simp
  have hpp : (pa == pa) = true := by simp
  clear hs1 hs2
  obtain ⟨⟨f0, f1, f2⟩, e0, e1, e2⟩ := HF.out w3.drew (HQ3.out.trans (Keep.drew _))
  have k0 : Keep [] w3 w3.drew := Keep.drew _
  go_wp2_with fail
  go_region_held3 (fun w' => w'.cell? ⟨w.heap.size, 0, none⟩ = some (.slice A0 n0 c0) ∧ w'.cell? ⟨w.heap.size, 1, none⟩ = some (.slice A1 n1 c1) ∧ w'.cell? ⟨w.heap.size, 2, none⟩ = some (.slice A2 n2 c2) ∧ w'.cell? ⟨w.heap.size + 1, 0, none⟩ = some (.slice B0 m0 d0) ∧ w'.cell? ⟨w.heap.size + 1, 1, none⟩ = some (.slice B1 m1 d1) ∧ w'.cell? ⟨w.heap.size + 1, 2, none⟩ = some (.slice B2 m2 d2)) (first | exact ⟨f0, f1, f2, e0, e1, e2⟩ | go_keep) (first
    | (go_at_call 9; with_reducible refine (TR.out _ (HK3.out.trans k0) HS.out.1).mono ?_; rintro e v1 ⟨X0, X1, X2, x0, x1, x2, rfl, hg1, k1⟩; have k1 := k0.trans k1; obtain ⟨⟨f0, f1, f2⟩, e0, e1, e2⟩ := HF.out v1 (HQ3.out.trans k1))
    | (go_at_call 10; with_reducible refine (RT.out _ (HK3.out.trans k1) HS.out.1).mono ?_; rintro e v2 ⟨Y0, Y1, Y2, y0, y1, y2, rfl, hg2, k2⟩; have hg1 := hg1.keep k2; have k2 := k1.trans k2; obtain ⟨⟨f0, f1, f2⟩, e0, e1, e2⟩ := HF.out v2 (HQ3.out.trans k2))
    | (go_at_call 8; with_reducible refine (SM.out _ _ _ _ _ _ _ _ _ _ _ _ _ hg1 hg2).mono ?_; rintro e v3 ⟨rfl, k3⟩; have k3 := k2.trans k3; obtain ⟨⟨f0, f1, f2⟩, e0, e1, e2⟩ := HF.out v3 (HQ3.out.trans k3))
    | (go_at_call 11; with_reducible refine (TX.out _ (HK3.out.trans k3) HS.out.1).mono ?_; rintro e v4 ⟨rfl, k4⟩; have k4 := k3.trans k4; obtain ⟨⟨f0, f1, f2⟩, e0, e1, e2⟩ := HF.out v4 (HQ3.out.trans k4))
    | (go_at_call 12; with_reducible refine (RX.out _ (HK3.out.trans k4) HS.out.1).mono ?_; rintro e v5 ⟨rfl, k5⟩; have k5 := k4.trans k5; obtain ⟨⟨f0, f1, f2⟩, e0, e1, e2⟩ := HF.out v5 (HQ3.out.trans k5))
    | (go_at_call 13; with_reducible refine (AL.out _ (HK3.out.trans k5) HS.out.1 HS.out.2).mono ?_; rintro e v6 ⟨rfl, k6⟩; have k6 := k5.trans k6; obtain ⟨⟨f0, f1, f2⟩, e0, e1, e2⟩ := HF.out v6 (HQ3.out.trans k6))
    | (go_at_call 14; with_reducible refine (RA.out _ (HK3.out.trans k6) HS.out.1 HS.out.2).mono ?_; rintro e v7 ⟨rfl, k7⟩; have k7 := k6.trans k7; obtain ⟨⟨f0, f1, f2⟩, e0, e1, e2⟩ := HF.out v7 (HQ3.out.trans k7))
    | (go_at_call 7; with_reducible refine (AW.out _).mono ?_; rintro e v8 ⟨rfl, k8⟩; have k8 := k7.trans k8; obtain ⟨⟨f0, f1, f2⟩, e0, e1, e2⟩ := HF.out v8 (HQ3.out.trans k8)))
  all_goals
    have HKE := Lib.hid (HK3.out.trans k8)
    clear k0 k1 k2 k3 k4 k5 k6 k7 k8 f0 f1 f2 e0 e1 e2
    go_wp2
    go_ret
    exact ⟨rfl, HKE.out⟩
end Go.Proofs.YtigclopkoolocaaDoor
