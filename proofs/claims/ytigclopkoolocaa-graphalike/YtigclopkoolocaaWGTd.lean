/-
  GraphTrimmed walked. No conditions but what is in memory.
-/
import Derived.Test.YtigclopkoolocaaGd12
namespace Go.Proofs.Ytigclopkoolocaa
open Go.RowKit Go.Flo Go.Bit
set_option maxRecDepth 100000

theorem trim_slim {g : Gr} (hM : MayG g) (h : Slim g) : Slim (trimG g) := by
  refine ⟨?_, ?_, fun i hi => ?_⟩
  · show (g.roots.map _).length ≤ _; rw [List.length_map]; exact h.1
  · show (g.weaks.map _).length ≤ _; rw [List.length_map]; exact h.2.1
  · have hn : (trimG g).n = (orderG g g.roots).length := trimR_n _ _
    rw [hn] at hi
    have e : (trimG g).at i = _ := trimR_at g (orderG g g.roots) hi
    rw [e]
    dsimp only
    rw [List.length_map]
    exact h.2.2 _ ((orderG_fine g g.roots).2 _ (List.getElem_mem hi))

theorem reach_trim {g : Gr} (hM : MayG g) : reachB (trimG g) (trimG g).roots = (List.range (orderG g g.roots).length).map (fun _ => true) := by
  have hn : (trimG g).n = (orderG g g.roots).length := trimR_n _ _
  rw [show reachB (trimG g) (trimG g).roots = (List.range (trimG g).n).map (fun i => decide (i ∈ orderG (trimG g) (trimG g).roots)) from if_pos (trim_may hM), trim_order hM, hn]
  exact List.map_congr_left fun i hi => by simpa using List.mem_range.1 hi

set_option maxHeartbeats 20000000 in
theorem walk_gtrimmed (w : World) (A0 A1 A2 : Option Addr) (c0 c1 c2 : Nat) (g : Gr) (h : GIn w A0 A1 A2 c0 c1 c2 g) :
    Calls Try.prog 7 #[.agg #[.slice A0 g.nodes.length c0, .slice A1 g.roots.length c1, .slice A2 g.weaks.length c2]] w fun e w' => e = .returned (.bool true) ∧ Keep [] w w' := by
  have m1 := fun W (hk : Keep [] w W) => mayg_any W A0 A1 A2 c0 c1 c2 g (h.keep hk)
  have r1 := fun W (hk : Keep [] w W) => reach_any W A0 A1 A2 A1 c0 c1 c2 c1 g g.roots (h.keep hk) (h.roots.keep hk)
  have tr := fun W (hk : Keep [] w W) hs => trim_any W A0 A1 A2 c0 c1 c2 g (h.keep hk) hs
  have li := fun W (hk : Keep [] w W) => light12_any W A0 A1 A2 c0 c1 c2 g (h.keep hk)
  have AW := Lib.hid awake12_any
  have hlc := h.roots.nc
  have hlm := h.roots.cap
  obtain ⟨n0, hn0⟩ : ∃ n, g.nodes.length = n := ⟨_, rfl⟩
  obtain ⟨n1, hn1⟩ : ∃ n, g.roots.length = n := ⟨_, rfl⟩
  obtain ⟨n2, hn2⟩ : ∃ n, g.weaks.length = n := ⟨_, rfl⟩
  have HG := Lib.hid (And.intro h (And.intro hn0 (And.intro hn1 hn2)))
  rw [hn0, hn1, hn2] at m1 r1 tr li ⊢
  rw [hn1] at hlc
  clear h hn0 hn1 hn2
  have ka : Keep [] w (w.alloc (.cells #[.slice A0 n0 c0, .slice A1 n1 c1, .slice A2 n2 c2] 25)) := Keep.alloc _ _
  have hba := Blk.new w 25 #[.slice A0 n0 c0, .slice A1 n1 c1, .slice A2 n2 c2]
  obtain ⟨w1, hw1⟩ : ∃ w1, w1 = w.alloc (.cells #[.slice A0 n0 c0, .slice A1 n1 c1, .slice A2 n2 c2] 25) := ⟨_, rfl⟩
  rw [← hw1] at ka hba
  have hf := fun W (hk : Keep [] w1 W) => And.intro (((hba.keep hk (by simp)).cell 0).trans (show _ = some (Value.slice A0 n0 c0) from rfl)) (And.intro (((hba.keep hk (by simp)).cell 1).trans (show _ = some (Value.slice A1 n1 c1) from rfl)) (((hba.keep hk (by simp)).cell 2).trans (show _ = some (Value.slice A2 n2 c2) from rfl)))
  unfold BolPost at r1
  unfold GrPost at tr
  have M1 := Lib.hid (fun W (hk : Keep [] w1 W) => m1 W (ka.trans hk))
  have R1 := Lib.hid (fun W (hk : Keep [] w1 W) => r1 W (ka.trans hk))
  have T1 := Lib.hid (fun W (hk : Keep [] w1 W) => tr W (ka.trans hk))
  have HF := Lib.hid hf
  have HKA := Lib.hid ka
  have HBA := Lib.hid hba
  have hli := li w1 ka
  obtain ⟨p, hp⟩ : ∃ p, decide (Light12 g) = p := ⟨_, rfl⟩
  rw [hp] at hli
  have HLI := Lib.hid hp
  clear hp m1 r1 tr hf li ka hba
  cases p with
  | false =>
    go_enter Try.func7, Try.ntmps7
    go_wp2_with fail
    rw [← hw1]
    (with_reducible refine hli.mono ?_)
    rintro e w2 ⟨rfl, k2⟩
    have haw := AW.out w2
    have HK := Lib.hid (HKA.out.trans k2)
    clear k2 hli
    go_wp2_with fail
    (with_reducible refine haw.mono ?_)
    rintro e w3 ⟨rfl, k3⟩
    have HK3 := Lib.hid (HK.out.trans k3)
    clear k3 haw
    go_wp2
    go_ret
    exact ⟨rfl, HK3.out⟩
  | true =>
  go_enter Try.func7, Try.ntmps7
  go_wp2_with fail
  rw [← hw1]
  (with_reducible refine hli.mono ?_)
  rintro e w2 ⟨rfl, k2⟩
  have hm := M1.out w2 k2
  have HK2 := Lib.hid k2
  obtain ⟨f0, f1, f2⟩ := HF.out w2 k2
  clear k2 hli hw1
  by_cases hM : MayG g
  case neg =>
    rw [decide_eq_false hM] at hm
    clear hM
    have HKB := Lib.hid (HKA.out.trans HK2.out)
    go_wp2_with fail
    clear f0 f1 f2
    (with_reducible refine hm.mono ?_)
    rintro e w9 ⟨rfl, k9⟩
    have haw := AW.out w9
    have HK := Lib.hid (HKB.out.trans k9)
    clear k9 hm
    go_wp2_with fail
    (with_reducible refine haw.mono ?_)
    rintro e w10 ⟨rfl, k10⟩
    have HK3 := Lib.hid (HK.out.trans k10)
    clear k10 haw
    go_wp2
    go_ret
    exact ⟨rfl, HK3.out⟩
  rw [decide_eq_true hM] at hm
  have HM := Lib.hid hM
  have hsl : Slim g := (of_decide_eq_true HLI.out).slim
  have HSL := Lib.hid hsl
  have hR : reachB g g.roots = (List.range n0).map (fun i => decide (i ∈ orderG g g.roots)) := by
    rw [show reachB g g.roots = (List.range g.n).map (fun i => decide (i ∈ orderG g g.roots)) from if_pos hM, show g.n = n0 from HG.out.2.1]
  have HTE := Lib.hid (show trimE g = trimG g from if_pos hM)
  have HRT := Lib.hid (reach_trim hM)
  obtain ⟨O, hO⟩ : ∃ O, orderG g g.roots = O := ⟨_, rfl⟩
  have hfo := orderG_fine g g.roots
  rw [hO] at hR hfo
  rw [show g.n = n0 from HG.out.2.1] at hfo
  have HO := Lib.hid (And.intro hO (And.intro hR hfo))
  have hOl := hfo.len
  have h96 := hM.1
  rw [show g.n = n0 from HG.out.2.1] at h96
  clear hM hsl hR hO hfo
  have tn : (trimG g).nodes.length = O.length := by show (List.map _ (orderG g g.roots)).length = _; rw [List.length_map, HO.out.1]
  have t1 : (trimG g).roots.length = n1 := by show (List.map _ g.roots).length = _; rw [List.length_map]; exact HG.out.2.2.1
  have t2 : (trimG g).weaks.length = n2 := by show (List.map _ g.weaks).length = _; rw [List.length_map]; exact HG.out.2.2.2
  have HTL := Lib.hid (And.intro tn (And.intro t1 t2))
  clear tn t1 t2
  go_wp2_with fail
  (with_reducible refine hm.mono ?_)
  rintro e w3 ⟨rfl, k3⟩
  have k3' := HK2.out.trans k3
  have htr := T1.out w3 k3' HSL.out
  rw [HTE.out, HTL.out.1, HTL.out.2.1, HTL.out.2.2] at htr
  have HK3 := Lib.hid k3'
  clear k3 k3' hm f0 f1 f2
  obtain ⟨f0, f1, f2⟩ := HF.out w3 HK3.out
  go_wp2_with fail
  (with_reducible refine htr.mono ?_)
  rintro e w4 ⟨E0, E1, E2, x0, x1, x2, rfl, hg, k4⟩
  have k4' := HK3.out.trans k4
  clear htr f0 f1 f2 k4
  have k5 : Keep [] w4 (w4.alloc (.cells #[.slice E0 O.length x0, .slice E1 n1 x1, .slice E2 n2 x2] 25)) := Keep.alloc _ _
  have hbt := Blk.new w4 25 #[.slice E0 O.length x0, .slice E1 n1 x1, .slice E2 n2 x2]
  obtain ⟨w5, hw5⟩ : ∃ w5, w5 = w4.alloc (.cells #[.slice E0 O.length x0, .slice E1 n1 x1, .slice E2 n2 x2] 25) := ⟨_, rfl⟩
  rw [← hw5] at k5 hbt
  have hg5 := hg.keep k5
  have hf5 := fun W (hk : Keep [] w5 W) => And.intro (((hbt.keep hk (by simp)).cell 0).trans (show _ = some (Value.slice E0 O.length x0) from rfl)) (And.intro (((hbt.keep hk (by simp)).cell 1).trans (show _ = some (Value.slice E1 n1 x1) from rfl)) (((hbt.keep hk (by simp)).cell 2).trans (show _ = some (Value.slice E2 n2 x2) from rfl)))
  have HFT := Lib.hid hf5
  have H5 := Lib.hid (And.intro hg5 (k4'.trans k5))
  have hmt := mayg_any w5 E0 E1 E2 x0 x1 x2 (trimG g) hg5
  rw [decide_eq_true (trim_may HM.out), HTL.out.1, HTL.out.2.1, HTL.out.2.2] at hmt
  have hrt := fun W (hk : Keep [] w5 W) => reach_any W E0 E1 E2 E1 x0 x1 x2 x1 (trimG g) (trimG g).roots (hg5.keep hk) (hg5.roots.keep hk)
  rw [HRT.out, HTL.out.1, HTL.out.2.1, HTL.out.2.2] at hrt
  unfold BolPost at hrt
  rw [show ((List.range (orderG g g.roots).length).map (fun _ => true)).length = O.length by rw [List.length_map, List.length_range, HO.out.1]] at hrt
  have HRTT := Lib.hid hrt
  obtain ⟨y0, y1, y2⟩ := hf5 w5 (Keep.refl _ _)
  obtain ⟨f0, f1, f2⟩ := HF.out w5 (k4'.trans k5)
  have e1 : ((n1 : Int) == n1) = true := by simp
  have e2 : ((n1 : Int) != n1) = false := by simp
  have e3 : ((n2 : Int) == n2) = true := by simp
  have e4 : ((n2 : Int) != n2) = false := by simp
  clear hbt hg5 hf5 hg k4' k5 hrt
  go_upto_region 4 with fail
  rw [← hw5]
  clear hw5
  go_wp2_with fail
  (with_reducible refine hmt.mono ?_)
  rintro e w6 ⟨rfl, k6⟩
  clear hmt f0 f1 f2 y0 y1 y2
  obtain ⟨y0, y1, y2⟩ := HFT.out w6 k6
  obtain ⟨f0, f1, f2⟩ := HF.out w6 (H5.out.2.trans k6)
  have hrt := HRTT.out w6 k6
  have HK6 := Lib.hid k6
  clear k6
  go_wp2_with fail
  (with_reducible refine hrt.mono ?_)
  rintro e w7 ⟨Q, xq, rfl, hbq, k7⟩
  have k7' := HK6.out.trans k7
  have hqc := hbq.nc
  have hqm := hbq.cap
  rw [show ((List.range (orderG g g.roots).length).map (fun _ => true)).length = O.length by rw [List.length_map, List.length_range, HO.out.1]] at hqc
  have HBQ := Lib.hid hbq
  have HK7 := Lib.hid k7'
  clear k7 k7' hrt hbq f0 f1 f2 y0 y1 y2
  go_wp2
  go_loopw [49] (fun y wr => ∃ j : Nat, j ≤ O.length ∧ y = .int .i64 j ∧ Keep [] w7 wr) (fun y _ => O.length - (RowKit.intOf y).toNat)
  case atStart => exact ⟨0, by omega, rfl, Keep.refl _ _⟩
  case round =>
  obtain ⟨j, hj, rfl, hK⟩ := hrel
  by_cases hlt : j < O.length
  case pos =>
    obtain ⟨bq, oq, rfl, _, hcq⟩ := (HBQ.out.keep hK).cells (by rw [List.length_map, List.length_range, HO.out.1]; omega)
    have cj := hcq j (by rw [List.length_map, List.length_range, HO.out.1]; exact hlt)
    rw [show ((List.range (orderG g g.roots).length).map (fun _ => true)).getD j false = true by rw [HO.out.1]; simp [List.getD_eq_getElem?_getD, hlt]] at cj
    have HK := Lib.hid hK
    clear hK hcq
    go_wp2
    go_roundw
    case rel => exact ⟨j + 1, by omega, by go_num, HK.out⟩
    case measure => simp [RowKit.intOf]; omega
  have hkk := HK7.out.trans hK
  obtain ⟨f0, f1, f2⟩ := HF.out wr (H5.out.2.trans hkk)
  have hrg := R1.out wr (H5.out.2.trans hkk)
  have hRl : (reachB g g.roots).length = n0 := by rw [HO.out.2.1]; simp
  rw [hRl] at hrg
  have HRL := Lib.hid hRl
  have HKK := Lib.hid hkk
  clear hK hkk hRl
  go_wp2_with fail
  (with_reducible refine hrg.mono ?_)
  rintro e w8 ⟨Q2, xq2, rfl, hbq2, k8⟩
  have k8' := HKK.out.trans k8
  have hqc2 := hbq2.nc
  have hqm2 := hbq2.cap
  rw [HRL.out] at hqc2
  have HBQ2 := Lib.hid hbq2
  have HK8 := Lib.hid k8'
  clear k8 k8' hrg hbq2 f0 f1 f2
  have hcl := fun k => (show cntR O k ≤ k from by induction k with | zero => exact Nat.le_refl _ | succ k ih => simp only [cntR]; split <;> omega)
  have HCL := Lib.hid hcl
  clear hcl
  go_wp2
  go_loopw [6, 61] (fun z y wr => ∃ j : Nat, j ≤ n0 ∧ z = .int .i64 (cntR O j : Nat) ∧ y = .int .i64 j ∧ Keep [] w8 wr) (fun _ y _ => n0 - (RowKit.intOf y).toNat)
  case atStart => exact ⟨0, by omega, rfl, rfl, Keep.refl _ _⟩
  case round =>
  obtain ⟨j2, hj2, rfl, rfl, hK⟩ := hrel
  by_cases hlt2 : j2 < n0
  case pos =>
    obtain ⟨bq, oq, rfl, _, hcq⟩ := (HBQ2.out.keep hK).cells (by rw [HRL.out]; omega)
    have cj := hcq j2 (by rw [HRL.out]; exact hlt2)
    rw [show (reachB g g.roots).getD j2 false = decide (j2 ∈ O) by rw [HO.out.2.1]; simp [List.getD_eq_getElem?_getD, hlt2]] at cj
    have HK := Lib.hid hK
    have hc1 := HCL.out j2
    have hcs : cntR O (j2 + 1) = cntR O j2 + if j2 ∈ O then 1 else 0 := rfl
    clear hK hcq
    obtain ⟨cc, hcc⟩ : ∃ cc, cntR O j2 = cc := ⟨_, rfl⟩
    rw [hcc] at hcs hc1 ⊢
    by_cases hjo : j2 ∈ O
    · rw [decide_eq_true hjo] at cj
      rw [if_pos hjo] at hcs
      have HCS := Lib.hid hcs
      clear hjo hcs hcc
      go_wp2
      go_roundw
      case rel => exact ⟨j2 + 1, by omega, by rw [HCS.out]; go_num, by go_num, HK.out⟩
      case measure => simp [RowKit.intOf]; omega
    · rw [decide_eq_false hjo] at cj
      rw [if_neg hjo] at hcs
      have HCS := Lib.hid hcs
      clear hjo hcs hcc
      go_wp2
      go_roundw
      case rel => exact ⟨j2 + 1, by omega, by rw [HCS.out]; rfl, by go_num, HK.out⟩
      case measure => simp [RowKit.intOf]; omega
  obtain rfl : j2 = n0 := by omega
  have hcl := cntR_len HO.out.2.2
  rw [hcl]
  have hkk := HK8.out.trans hK
  obtain ⟨y0, y1, y2⟩ := HFT.out wr hkk
  have HKK2 := Lib.hid hkk
  have HPN := Lib.hid (puts_next j2 O g.roots [] (Fine.nil _) (by rw [← HO.out.1, show j2 = g.n from HG.out.2.1.symm]; exact walkR_prefix g _ _ _) HO.out.2.2.1 (fun r hr => by have := HM.out.2.1 r hr; rwa [show g.n = j2 from HG.out.2.1] at this))
  have HPL := Lib.hid (fun k => (puts_fine (n := j2) (l := g.roots.take k) (Fine.nil j2)).len)
  have htc := H5.out.1.roots.nc
  have htm := H5.out.1.roots.cap
  rw [HTL.out.2.1] at htc
  clear hK hkk hcl
  obtain ⟨wz, rfl⟩ : ∃ wz, wz = wr := ⟨_, rfl⟩
  go_wp2
  clear y0 y1 y2
  go_loopw [9, 72] (fun z y wr => ∃ j : Nat, j ≤ n1 ∧ z = .int .i64 ((puts j2 [] (g.roots.take j)).length : Nat) ∧ y = .int .i64 j ∧ Keep [] w5 wr) (fun _ y _ => n1 - (RowKit.intOf y).toNat)
  case atStart => exact ⟨0, by omega, rfl, rfl, HKK2.out⟩
  case round =>
  obtain ⟨j3, hj3, rfl, rfl, hK⟩ := hrel
  by_cases hlt3 : j3 < n1
  case neg =>
    obtain ⟨y0, y1, y2⟩ := HFT.out wr hK
    have haw := AW.out wr
    have e5 : ((O.length : Int) == (O.length : Nat)) = true := by simp
    have HK := Lib.hid (And.intro (HKA.out.trans (H5.out.2.trans hK)) hK)
    clear hK
    go_wp2_with fail
    (with_reducible refine haw.mono ?_)
    rintro e w9 ⟨rfl, k9⟩
    have HK3 := Lib.hid (HK.out.1.trans k9)
    clear k9 haw y0 y1 y2
    go_wp2
    go_ret
    exact ⟨rfl, HK3.out⟩
  obtain ⟨p1, p2, p3, p4⟩ := HPN.out j3 (by rw [HG.out.2.2.1]; exact hlt3)
  have hpb := HPL.out j3
  obtain ⟨f0, f1, f2⟩ := HF.out wr (H5.out.2.trans hK)
  obtain ⟨bt, ot, rfl, _, hct⟩ := (H5.out.1.roots.keep hK).cells (by rw [HTL.out.2.1]; omega)
  have ct := hct j3 (by rw [HTL.out.2.1]; exact hlt3)
  obtain ⟨bg, og, rfl, _, hcg⟩ := (HG.out.1.roots.keep (HKA.out.trans (H5.out.2.trans hK))).cells (by rw [HG.out.2.2.1]; omega)
  have cg := hcg j3 (by rw [HG.out.2.2.1]; exact hlt3)
  have hjl : j3 < g.roots.length := by rw [HG.out.2.2.1]; exact hlt3
  have hgd : g.roots.getD j3 0 = g.roots[j3] := by rw [List.getD_eq_getElem?_getD, List.getElem?_eq_getElem hjl]; rfl
  have htd : (trimG g).roots.getD j3 0 = place O g.roots[j3] := by
    show (List.map (place (orderG g g.roots)) g.roots).getD j3 0 = _
    rw [List.getD_eq_getElem?_getD, List.getElem?_map, List.getElem?_eq_getElem hjl, HO.out.1]
    rfl
  rw [hgd] at cg
  rw [htd] at ct
  have hprng := place_rng O g.roots[j3]
  unfold MayI at hprng
  generalize g.roots[j3] = gr at *
  generalize place O gr = pr at *
  obtain ⟨L, hL⟩ : ∃ L, (puts j2 [] (g.roots.take j3)).length = L := ⟨_, rfl⟩
  obtain ⟨L', hL'⟩ : ∃ L', (puts j2 [] (g.roots.take (j3 + 1))).length = L' := ⟨_, rfl⟩
  rw [hL] at p1 p3 p4 hpb ⊢
  rw [hL'] at p3 p4
  have HL' := Lib.hid hL'
  have HK := Lib.hid hK
  clear hct hcg hgd htd hL hL' hK
  have g1 : ¬ (L : Int) < pr := by omega
  have hji3 : (j3 : Int) < n1 := by omega
  have g2 : (decide (pr < 0)) = (decide (gr < 0)) := by rw [Bool.eq_iff_iff]; simp only [decide_eq_true_eq]; exact p2
  by_cases hpl : pr = L
  · subst hpl
    have hLL : L' = L + 1 := p3.1 rfl
    subst hLL
    have g0 : ¬ ((L : Int) < 0) := by omega
    have g3 : ¬ gr < 0 := fun e => g0 (p2.2 e)
    have g5 : ((L : Int) == L) = true := by simp
    clear p1 p2 p3 p4 g2
    go_wp2
    go_roundw
    case rel => exact ⟨j3 + 1, by omega, by rw [HL'.out]; go_num, by go_num, HK.out⟩
    case measure => simp [RowKit.intOf]; omega
  · have hLL : L' = L := p4.1 hpl
    subst hLL
    have g5 : (pr == (L' : Int)) = false := by simpa using hpl
    by_cases hg0 : gr < 0
    · have hp0 : pr < 0 := p2.2 hg0
      clear p1 p2 p3 p4 g2 hpl
      go_wp2
      go_roundw
      case rel => exact ⟨j3 + 1, by omega, by rw [HL'.out], by go_num, HK.out⟩
      case measure => simp [RowKit.intOf]; omega
    · have hp0 : ¬ pr < 0 := fun e => hg0 (p2.1 e)
      clear p1 p2 p3 p4 g2 hpl
      go_wp2
      go_roundw
      case rel => exact ⟨j3 + 1, by omega, by rw [HL'.out], by go_num, HK.out⟩
      case measure => simp [RowKit.intOf]; omega
end Go.Proofs.Ytigclopkoolocaa
