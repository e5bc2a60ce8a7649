/-
  GraphSide walked. Conditions: what the library's tables hold, and what is in memory.
-/
import Derived.Test.YtigclopkoolocaaDoorBl3
import Derived.Test.YtigclopkoolocaaDoorSd1
import Derived.Deep.RegionHeld3
import Derived.Deep.DeepCutAuto
namespace Go.Proofs.YtigclopkoolocaaDoor
open Go.RowKit Go.Flo Go.Bit
set_option maxRecDepth 100000

set_option maxHeartbeats 20000000 in
theorem walk_gside (w : World) (A0 A1 A2 B0 B1 B2 : Option Addr) (c0 c1 c2 d0 d1 d2 : Nat) (g h : Gr) (hg : GIn w A0 A1 A2 c0 c1 c2 g) (hh : GIn w B0 B1 B2 d0 d1 d2 h) (ng : GrN g) (nh : GrN h) (hT : Tabs w) :
    Calls Tryd.prog 5 #[.agg #[.slice A0 g.nodes.length c0, .slice A1 g.roots.length c1, .slice A2 g.weaks.length c2], .agg #[.slice B0 h.nodes.length d0, .slice B1 h.roots.length d1, .slice B2 h.weaks.length d2]] w fun e w' => e = .returned (.bool true) ∧ Keep [] w w' := by
  have l1 := fun W (hk : Keep [] w W) => light12_any W A0 A1 A2 c0 c1 c2 g (hg.keep hk)
  have l2 := fun W (hk : Keep [] w W) => light12_any W B0 B1 B2 d0 d1 d2 h (hh.keep hk)
  have y1 := fun W (hk : Keep [] w W) => mayg_any W A0 A1 A2 c0 c1 c2 g (hg.keep hk)
  have y2 := fun W (hk : Keep [] w W) => mayg_any W B0 B1 B2 d0 d1 d2 h (hh.keep hk)
  have tr := fun W (hk : Keep [] w W) hs => trim_any W A0 A1 A2 c0 c1 c2 g (hg.keep hk) hs
  unfold GrPost at tr
  have al := fun W C0 C1 C2 x0 x1 x2 b (hk : Keep [] w W) (h' : GIn W C0 C1 C2 x0 x1 x2 b) hs hs' => alike_any W A0 A1 A2 C0 C1 C2 c0 c1 c2 x0 x1 x2 g b (hg.keep hk) h' hs hs'
  have AW := Lib.hid awake12_any
  have hnc := hg.nodes.nc
  have hncm := hg.nodes.cap
  have hmc := hh.nodes.nc
  have hmcm := hh.nodes.cap
  have HG := Lib.hid (And.intro hg (And.intro hh (And.intro ng (And.intro nh hT))))
  clear hg hh ng nh hT
  generalize hn0 : g.nodes.length = n0 at *
  generalize hn1 : g.roots.length = n1 at *
  generalize hn2 : g.weaks.length = n2 at *
  generalize hm0 : h.nodes.length = m0 at *
  generalize hm1 : h.roots.length = m1 at *
  generalize hm2 : h.weaks.length = m2 at *
  have HL := Lib.hid (And.intro hn0 (And.intro hn1 (And.intro hn2 (And.intro hm0 (And.intro hm1 hm2)))))
  clear hn0 hn1 hn2 hm0 hm1 hm2
  have ka : Keep [] w (w.alloc (.cells #[.slice A0 n0 c0, .slice A1 n1 c1, .slice A2 n2 c2] 25)) := Keep.alloc _ _
  have hba := Blk.new w 25 #[.slice A0 n0 c0, .slice A1 n1 c1, .slice A2 n2 c2]
  obtain ⟨wa, hwa⟩ : ∃ wa, wa = w.alloc (.cells #[.slice A0 n0 c0, .slice A1 n1 c1, .slice A2 n2 c2] 25) := ⟨_, rfl⟩
  have hza : wa.heap.size = w.heap.size + 1 := by rw [hwa]; simp
  rw [← hwa] at ka hba
  have kb : Keep [] wa (wa.alloc (.cells #[.slice B0 m0 d0, .slice B1 m1 d1, .slice B2 m2 d2] 25)) := Keep.alloc _ _
  have hbj := Blk.new wa 25 #[.slice B0 m0 d0, .slice B1 m1 d1, .slice B2 m2 d2]
  obtain ⟨w1, hw1⟩ : ∃ w1, w1 = wa.alloc (.cells #[.slice B0 m0 d0, .slice B1 m1 d1, .slice B2 m2 d2] 25) := ⟨_, rfl⟩
  rw [← hw1] at kb hbj
  rw [hza] at hbj
  rw [hwa] at hw1
  have hba := hba.keep kb (by simp)
  have ka := ka.trans kb
  have hf := fun W (hk : Keep [] w1 W) => And.intro (And.intro (((hba.keep hk (by simp)).cell 0).trans (show _ = some (Value.slice A0 n0 c0) from rfl)) (And.intro (((hba.keep hk (by simp)).cell 1).trans (show _ = some (Value.slice A1 n1 c1) from rfl)) (((hba.keep hk (by simp)).cell 2).trans (show _ = some (Value.slice A2 n2 c2) from rfl))))
    (And.intro (((hbj.keep hk (by simp)).cell 0).trans (show _ = some (Value.slice B0 m0 d0) from rfl)) (And.intro (((hbj.keep hk (by simp)).cell 1).trans (show _ = some (Value.slice B1 m1 d1) from rfl)) (((hbj.keep hk (by simp)).cell 2).trans (show _ = some (Value.slice B2 m2 d2) from rfl))))
  have HF := Lib.hid hf
  have HBX := Lib.hid (And.intro hba hbj)
  have HK1 := Lib.hid ka
  have HQ1 := Lib.hid (Keep.refl [] w1)
  obtain ⟨⟨f0, f1, f2⟩, e0, e1, e2⟩ := hf w1 (Keep.refl [] w1)
  have hl1 := l1 w1 ka
  have L1 := Lib.hid l1
  have L2 := Lib.hid l2
  clear l1 l2 hf ka kb hba hbj hza hwa
  have L3 := Lib.hid y1
  have L4 := Lib.hid y2
  have TR := Lib.hid tr
  have AL := Lib.hid al
  clear y1 y2 tr al
  go_enter Tryd.func5, Tryd.ntmps5
  go_wp2_with fail
  rw [← hw1]
  clear hw1
  by_cases hp1 : Light12 g
  case neg =>
    rw [decide_eq_false hp1] at hl1
    clear hp1 f0 f1 f2 e0 e1 e2
    (with_reducible refine hl1.mono ?_)
    rintro e v9 ⟨rfl, k9⟩
    have haw := AW.out v9
    have HK := Lib.hid (HK1.out.trans k9)
    clear k9 hl1
    go_wp2_with fail
    (with_reducible refine haw.mono ?_)
    rintro e v10 ⟨rfl, k10⟩
    have HK3 := Lib.hid (HK.out.trans k10)
    clear k10 haw
    go_wp2
    go_ret
    exact ⟨rfl, HK3.out⟩
  rw [decide_eq_true hp1] at hl1
  have HP1 := Lib.hid hp1
  (with_reducible refine hl1.mono ?_)
  rintro e w2 ⟨rfl, k2⟩
  have HK2 := Lib.hid (HK1.out.trans k2)
  have HQ2 := Lib.hid (HQ1.out.trans k2)
  clear k2 hl1 hp1 f0 f1 f2 e0 e1 e2
  obtain ⟨⟨f0, f1, f2⟩, e0, e1, e2⟩ := HF.out w2 HQ2.out
  have hl2 := L2.out w2 HK2.out
  go_wp2_with fail
  by_cases hp2 : Light12 h
  case neg =>
    rw [decide_eq_false hp2] at hl2
    clear hp2 f0 f1 f2 e0 e1 e2
    (with_reducible refine hl2.mono ?_)
    rintro e v9 ⟨rfl, k9⟩
    have haw := AW.out v9
    have HK := Lib.hid (HK2.out.trans k9)
    clear k9 hl2
    go_wp2_with fail
    (with_reducible refine haw.mono ?_)
    rintro e v10 ⟨rfl, k10⟩
    have HK3 := Lib.hid (HK.out.trans k10)
    clear k10 haw
    go_wp2
    go_ret
    exact ⟨rfl, HK3.out⟩
  rw [decide_eq_true hp2] at hl2
  have HP2 := Lib.hid hp2
  (with_reducible refine hl2.mono ?_)
  rintro e w3 ⟨rfl, k3⟩
  have HK3 := Lib.hid (HK2.out.trans k3)
  have HQ3 := Lib.hid (HQ2.out.trans k3)
  clear k3 hl2 hp2 f0 f1 f2 e0 e1 e2
  obtain ⟨⟨f0, f1, f2⟩, e0, e1, e2⟩ := HF.out w3 HQ3.out
  have hl3 := L3.out w3 HK3.out
  go_wp2_with fail
  by_cases hp3 : MayG g
  case neg =>
    rw [decide_eq_false hp3] at hl3
    clear hp3 f0 f1 f2 e0 e1 e2
    (with_reducible refine hl3.mono ?_)
    rintro e v9 ⟨rfl, k9⟩
    have haw := AW.out v9
    have HK := Lib.hid (HK3.out.trans k9)
    clear k9 hl3
    go_wp2_with fail
    (with_reducible refine haw.mono ?_)
    rintro e v10 ⟨rfl, k10⟩
    have HK3 := Lib.hid (HK.out.trans k10)
    clear k10 haw
    go_wp2
    go_ret
    exact ⟨rfl, HK3.out⟩
  rw [decide_eq_true hp3] at hl3
  have HP3 := Lib.hid hp3
  (with_reducible refine hl3.mono ?_)
  rintro e w4 ⟨rfl, k4⟩
  have HK4 := Lib.hid (HK3.out.trans k4)
  have HQ4 := Lib.hid (HQ3.out.trans k4)
  clear k4 hl3 hp3 f0 f1 f2 e0 e1 e2
  obtain ⟨⟨f0, f1, f2⟩, e0, e1, e2⟩ := HF.out w4 HQ4.out
  have hl4 := L4.out w4 HK4.out
  go_wp2_with fail
  by_cases hp4 : MayG h
  case neg =>
    rw [decide_eq_false hp4] at hl4
    clear hp4 f0 f1 f2 e0 e1 e2
    (with_reducible refine hl4.mono ?_)
    rintro e v9 ⟨rfl, k9⟩
    have haw := AW.out v9
    have HK := Lib.hid (HK4.out.trans k9)
    clear k9 hl4
    go_wp2_with fail
    (with_reducible refine haw.mono ?_)
    rintro e v10 ⟨rfl, k10⟩
    have HK3 := Lib.hid (HK.out.trans k10)
    clear k10 haw
    go_wp2
    go_ret
    exact ⟨rfl, HK3.out⟩
  rw [decide_eq_true hp4] at hl4
  have HP4 := Lib.hid hp4
  (with_reducible refine hl4.mono ?_)
  rintro e w5 ⟨rfl, k5⟩
  have HK5 := Lib.hid (HK4.out.trans k5)
  have HQ5 := Lib.hid (HQ4.out.trans k5)
  clear k5 hl4 hp4 f0 f1 f2 e0 e1 e2
  obtain ⟨⟨f0, f1, f2⟩, e0, e1, e2⟩ := HF.out w5 HQ5.out
  have hn60 : n0 ≤ 60 := by have h9 := HP1.out.1; rwa [show g.n = n0 from HL.out.1] at h9
  have hm60 : m0 ≤ 60 := by have h9 := HP2.out.1; rwa [show h.n = m0 from HL.out.2.2.2.1] at h9
  have k6 : Keep [] w5 (w5.alloc (.cells #[.slice none 0 0, .slice A1 n1 c1, .slice A2 n2 c2] 25)) := Keep.alloc _ _
  have hb6 := Blk.new w5 25 #[.slice none 0 0, .slice A1 n1 c1, .slice A2 n2 c2]
  obtain ⟨w6, hw6⟩ : ∃ w6, w6 = w5.alloc (.cells #[.slice none 0 0, .slice A1 n1 c1, .slice A2 n2 c2] 25) := ⟨_, rfl⟩
  rw [← hw6] at k6 hb6
  have hz6 : w6.heap.size = w5.heap.size + 1 := by rw [hw6]; simp
  obtain ⟨O, hO⟩ : ∃ O, w5.heap.size = O := ⟨_, rfl⟩
  rw [hO] at hb6 hz6
  have hO1 : w1.heap.size ≤ O := by have := HQ5.out.size; omega
  have hO0 : w.heap.size + 1 < w1.heap.size := HBX.out.2.lt
  go_upto_region 5 with fail
  rw [← hw6]
  try rw [hO]
  clear f0 f1 f2 e0 e1 e2
  have z0 := (hb6.cell 0).trans (show _ = some (Value.slice none 0 0) from rfl)
  obtain ⟨⟨f0, f1, f2⟩, e0, e1, e2⟩ := HF.out w6 (HQ5.out.trans k6)
  have H6 := Lib.hid (And.intro (HK5.out.trans k6) (And.intro (HQ5.out.trans k6) hb6))
  clear k6 hb6 hw6 hO
  obtain ⟨vs, hv0, hv1, hv2⟩ := nodl_vs HG.out.1.nodes
  rw [HL.out.1] at hv0 hv1 hv2
  have HVV := Lib.hid hv2
  have HVS := Lib.hid (fun W (hk : Keep [] w W) => (show ∀ ad, A0 = some ad → ∀ j u, (nodC n0 (fun i => (g.nodes.getD i nod0).K) vs)[j]? = some u → W.cell? (ad.add j) = some u from fun ad had j u hu => by
    obtain ⟨b, o, e, hb⟩ := hv0 (by
      have := (List.getElem?_eq_some_iff.1 hu).1
      rw [nodC_len] at this
      omega)
    have h1 := hv1 ad had j u hu
    rw [had] at e
    obtain rfl : ad = ⟨b, o, none⟩ := by simpa using e
    rw [addr_add0] at h1 ⊢
    exact (hk.cell (p := ⟨b, o + j, none⟩) hb (by simp)).trans h1))
  have hGn : A0 = none → n0 = 0 := fun e => by
    rcases Nat.eq_zero_or_pos n0 with h0 | h0
    · exact h0
    · obtain ⟨b, o, e2, _⟩ := hv0 h0
      rw [e] at e2
      cases e2
  have hone : ∀ u ∈ nodC n0 (fun i => (g.nodes.getD i nod0).K) vs, u.oneCell' = true := fun u hu => by
    obtain ⟨j, hj, rfl⟩ := List.getElem_of_mem hu
    rw [nodC_len] at hj
    obtain ⟨q1, q2⟩ := nodC_get (fun i => (g.nodes.getD i nod0).K) vs (i := j / 2) (show j / 2 < n0 by omega)
    obtain ⟨A', c', e, _⟩ := hv2 (j / 2) (by omega)
    rcases (show j = j / 2 * 2 ∨ j = j / 2 * 2 + 1 by omega) with e2 | e2
    · have : (nodC n0 (fun i => (g.nodes.getD i nod0).K) vs)[j]? = some (.int .i64 (g.nodes.getD (j / 2) nod0).K) := by rw [e2]; simpa using q1
      rw [List.getElem?_eq_getElem (by rw [nodC_len]; omega)] at this
      rw [Option.some.inj this]
      rfl
    · have : (nodC n0 (fun i => (g.nodes.getD i nod0).K) vs)[j]? = some (vs (j / 2)) := by
        have h9 : (j / 2 * 2 + 1) / 2 = j / 2 := by omega
        rw [e2, h9]; exact q2
      rw [List.getElem?_eq_getElem (by rw [nodC_len]; omega)] at this
      rw [Option.some.inj this, e]
      rfl
  obtain ⟨NC, hNC⟩ : ∃ NC, nodC n0 (fun i => (g.nodes.getD i nod0).K) vs = NC := ⟨_, rfl⟩
  have hNCl : NC.length = n0 * 2 := by rw [← hNC, nodC_len]
  rw [hNC] at HVS hone
  have HNC := Lib.hid hNC
  clear hv0 hv1 hv2 hNC
  have hnc9 := hnc
  obtain ⟨ii, hii, hi0, hi1, hi2⟩ := info_of nodparts
  go_wp2_with (at_builtin; refine wpList_append_src rfl (.tmp 40) (.tmp 42) 22 rfl (O + 1) 33 ii (.agg #[.int .i64 0, .slice none 0 0]) 2 32 Tryd.underlying22 hii hi0 hi1 hi2 rfl (by omega) (.slice none 0 0) 0 [] rfl ⟨rfl, Or.inl ⟨rfl, rfl⟩⟩ A0 n0 c0 NC rfl hNCl hGn (HVS.out _ H6.out.1) hone (by unfold maxLen; omega) (by omega) (by omega) ?_)
  intro v1 w7 hown hgrow
  have hown7 : w7.ownsRow (O + 1) 33 2 v1 n0 NC := by simpa using hown
  have k7 : Keep [] w6 w7 := Keep.grown (own := []) hgrow (fun k _ e => by simp [Value.ownBlock] at e)
  have hb7 := H6.out.2.2.keep k7 (by simp)
  obtain ⟨An, cn, rfl⟩ := owns_sl hown7
  clear hown hgrow z0
  have z0 := (hb7.cell 0).trans (show _ = some (Value.slice none 0 0) from rfl)
  have y0 := hb7.frozen 0
  have kO : Keep [O] w7 (w7.setCell ⟨O, 0, none⟩ (.slice An n0 cn)) := Keep.setCell _ _ (by simp) _
  have hb8 := hb7.set_ 0 (.slice An n0 cn)
  have hno8 : NodMix w (w7.setCell ⟨O, 0, none⟩ (.slice An n0 cn)) (O + 1) 33 36 (.slice An n0 cn) n0 g.nodes := ⟨vs, by rw [HL.out.1, HNC.out]; exact ownsRow_setCell_below hown7 (a := ⟨O, 0, none⟩) (by show O < O + 1; omega) _, HVV.out, fun i h1 h2 => by rw [HL.out.1] at h2; omega⟩
  have k18 : Keep [] w1 (w7.setCell ⟨O, 0, none⟩ (.slice An n0 cn)) := (H6.out.2.1.trans k7).since kO (by simp; omega)
  have k08 : Keep [] w (w7.setCell ⟨O, 0, none⟩ (.slice An n0 cn)) := (H6.out.1.trans k7).since kO (by simp; omega)
  go_upto_region 6 with fail
  obtain ⟨w8, hw8⟩ : ∃ w8, w8 = w7.setCell ⟨O, 0, none⟩ (.slice An n0 cn) := ⟨_, rfl⟩
  rw [← hw8] at kO hb8 hno8 k18 k08 ⊢
  clear f0 f1 f2 e0 e1 e2 z0 y0
  obtain ⟨⟨f0, f1, f2⟩, e0, e1, e2⟩ := HF.out w8 k18
  have hz8 : O < w8.heap.size := hb8.lt
  have H8 := Lib.hid (And.intro k08 (And.intro k18 (And.intro hb8 (And.intro hno8 (k7.of_nil.trans kO)))))
  clear kO hb8 hno8 k18 k08 hw8 hown7 k7 hb7 hone hNCl hGn hnc9 hii hi0 hi1 hi2
  go_wp2
  go_loopw [48] (fun x wx => ∃ (j : Nat) (v0 : Value), j ≤ m0 ∧ x = .int .i64 j ∧ Blk wx O 25 #[v0, .slice A1 n1 c1, .slice A2 n2 c2] ∧ NodMix w wx (O + 1) 33 36 v0 n0 (g.nodes ++ (h.nodes.take j).map (sideN n0)) ∧ Keep [O] w6 wx) (fun x _ => m0 - (RowKit.intOf x).toNat)
  case atStart => exact ⟨0, _, by omega, rfl, H8.out.2.2.1, by simpa using H8.out.2.2.2.1, H8.out.2.2.2.2⟩
  case round =>
  obtain ⟨j, v0, hj, rfl, hbo, hno, hK⟩ := hrel
  have hKw : Keep [] w wr := H6.out.1.since hK (by simp; omega)
  have hKq : Keep [] w1 wr := H6.out.2.1.since hK (by simp; omega)
  clear f0 f1 f2 e0 e1 e2
  by_cases hlt : j < m0
  case neg =>
    obtain rfl : j = m0 := by omega
    rw [show h.nodes.take j = h.nodes from List.take_of_length_le (by rw [HL.out.2.2.2.1]; exact Nat.le_refl _)] at hno
    obtain ⟨Ag, cg, e9, hN⟩ := hno.nodl hKw
    rw [List.length_append, List.length_map, HL.out.1, HL.out.2.2.2.1] at e9
    subst e9
    obtain ⟨ag, hag⟩ : ∃ ag, sideG g h = ag := ⟨_, rfl⟩
    have hag2 : ag = ⟨g.nodes ++ h.nodes.map (sideN n0), g.roots, g.weaks⟩ := by rw [← hag]; unfold sideG; rw [show g.n = n0 from HL.out.1]
    have hgA : GIn wr Ag A1 A2 cg c1 c2 ag := by rw [hag2]; exact ⟨hN, HG.out.1.roots.keep hKw, HG.out.1.weaks.keep hKw⟩
    have hma : MayG ag := by rw [← hag]; exact side_may HP3.out HP4.out (by have h1 := HP1.out.1; have h2 := HP2.out.1; omega)
    have hsa : Slim ag := by rw [← hag]; exact side_slim HP1.out.slim HP2.out.slim
    have hta : trimE ag = trimG g := by rw [show trimE ag = trimG ag from if_pos hma, ← hag]; exact side_trim HP3.out
    have htg : trimE g = trimG g := if_pos HP3.out
    have hala : AlikeG g ag := ⟨HP3.out, hma, by rw [← hag]; exact (side_trim HP3.out).symm⟩
    have lan : ag.nodes.length = n0 + j := by rw [hag2]; show (g.nodes ++ _).length = _; rw [List.length_append, List.length_map, HL.out.1, HL.out.2.2.2.1]
    have lar : ag.roots.length = n1 := by rw [hag2]; exact HL.out.2.1
    have law : ag.weaks.length = n2 := by rw [hag2]; exact HL.out.2.2.1
    have ma := fun W (hk : Keep [] wr W) => mayg_any W Ag A1 A2 cg c1 c2 ag (hgA.keep hk)
    have aa := fun W (hk : Keep [] wr W) => AL.out W Ag A1 A2 cg c1 c2 ag (hKw.trans hk) (hgA.keep hk) HP1.out.slim hsa
    have ta := fun W (hk : Keep [] wr W) => trim_any W Ag A1 A2 cg c1 c2 ag (hgA.keep hk) hsa
    have tg := fun W (hk : Keep [] wr W) => TR.out W (hKw.trans hk) HP1.out.slim
    unfold GrPost at ta
    rw [hta] at ta
    rw [htg] at tg
    rw [lan, lar, law] at ma aa ta
    rw [decide_eq_true hma] at ma
    rw [decide_eq_true hala] at aa
    have hst : Slim (trimG g) := trim_slim HP3.out HP1.out.slim
    have hnt : GrN (trimG g) := trimN HP3.out HG.out.2.2.1
    obtain ⟨t, ht⟩ : ∃ t, trimG g = t := ⟨_, rfl⟩
    rw [ht] at ta tg hst hnt
    have tx := fun W C0 C1 C2 x0 x1 x2 (hk : Keep [] wr W) (h' : GIn W C0 C1 C2 x0 x1 x2 t) => gtext_any W C0 C1 C2 x0 x1 x2 t h' hst hnt (HG.out.2.2.2.2.keep (hKw.trans hk))
    unfold GTPost at tx
    obtain ⟨Z, hZ⟩ : ∃ Z, bs (grTE t) = Z := ⟨_, rfl⟩
    rw [hZ] at tx
    generalize t.nodes.length = t0 at *
    generalize t.roots.length = t1 at *
    generalize t.weaks.length = t2 at *
    have MA := Lib.hid ma
    have AA := Lib.hid aa
    have TA := Lib.hid ta
    have TG := Lib.hid tg
    have TX := Lib.hid tx
    have hf9 := fun W (hk : Keep [] wr W) => And.intro (HF.out W (hKq.trans hk)).1 (And.intro (((hbo.keep hk (by simp)).cell 0).trans (show _ = some (Value.slice Ag (n0 + j) cg) from rfl)) (And.intro (((hbo.keep hk (by simp)).cell 1).trans (show _ = some (Value.slice A1 n1 c1) from rfl)) (((hbo.keep hk (by simp)).cell 2).trans (show _ = some (Value.slice A2 n2 c2) from rfl))))
    have HF9 := Lib.hid hf9
    have HKE := Lib.hid hKw
    have hzz : (Z.toList == Z.toList) = true := by simp
    clear hbo hno hK hKw hKq hN hag hag2 hgA hma hsa hta htg hala lan lar law ma aa ta tg hst hnt ht tx hZ hf9
    obtain ⟨⟨f0, f1, f2⟩, e0, e1, e2⟩ := HF9.out wr.drew (Keep.drew _)
    have k0 : Keep [] wr wr.drew := Keep.drew _
    go_wp2_with fail
    go_region_held3 (fun w' => w'.cell? ⟨w.heap.size, 0, none⟩ = some (.slice A0 n0 c0) ∧ w'.cell? ⟨w.heap.size, 1, none⟩ = some (.slice A1 n1 c1) ∧ w'.cell? ⟨w.heap.size, 2, none⟩ = some (.slice A2 n2 c2) ∧ w'.cell? ⟨O, 0, none⟩ = some (.slice Ag (n0 + j) cg) ∧ w'.cell? ⟨O, 1, none⟩ = some (.slice A1 n1 c1) ∧ w'.cell? ⟨O, 2, none⟩ = some (.slice A2 n2 c2)) (first | exact ⟨f0, f1, f2, e0, e1, e2⟩ | go_keep) (first
      | (go_at_call 15; with_reducible refine (MA.out _ k0).mono ?_; rintro e q1 ⟨rfl, k1⟩; have k1 := k0.trans k1; obtain ⟨⟨f0, f1, f2⟩, e0, e1, e2⟩ := HF9.out q1 k1)
      | (go_at_call 13; with_reducible refine (AA.out _ k1).mono ?_; rintro e q2 ⟨rfl, k2⟩; have k2 := k1.trans k2; obtain ⟨⟨f0, f1, f2⟩, e0, e1, e2⟩ := HF9.out q2 k2)
      | (go_at_call 9; with_reducible refine (TG.out _ k2).mono ?_; rintro e q3 ⟨X0, X1, X2, x0, x1, x2, rfl, hg3, k3⟩; have k3 := k2.trans k3; obtain ⟨⟨f0, f1, f2⟩, e0, e1, e2⟩ := HF9.out q3 k3)
      | (go_at_call 11; with_reducible refine (TX.out _ _ _ _ _ _ _ k3 hg3).mono ?_; rintro e q4 ⟨rfl, k4⟩; have k4 := k3.trans k4; obtain ⟨⟨f0, f1, f2⟩, e0, e1, e2⟩ := HF9.out q4 k4)
      | (go_at_call 9; with_reducible refine (TA.out _ k4).mono ?_; rintro e q5 ⟨Y0, Y1, Y2, y0, y1, y2, rfl, hg5, k5⟩; have k5 := k4.trans k5; obtain ⟨⟨f0, f1, f2⟩, e0, e1, e2⟩ := HF9.out q5 k5)
      | (go_at_call 11; with_reducible refine (TX.out _ _ _ _ _ _ _ k5 hg5).mono ?_; rintro e q6 ⟨rfl, k6⟩; have k6 := k5.trans k6; obtain ⟨⟨f0, f1, f2⟩, e0, e1, e2⟩ := HF9.out q6 k6)
      | (go_at_call 7; with_reducible refine (AW.out _).mono ?_; rintro e q7 ⟨rfl, k7⟩; have k7 := k6.trans k7; obtain ⟨⟨f0, f1, f2⟩, e0, e1, e2⟩ := HF9.out q7 k7))
    all_goals
      have HKF := Lib.hid (HKE.out.trans k7)
      clear k0 k1 k2 k3 k4 k5 k6 k7 f0 f1 f2 e0 e1 e2
      go_wp2
      go_ret
      exact ⟨rfl, HKF.out⟩
  have hlj : j < h.nodes.length := by rw [HL.out.2.2.2.1]; exact hlt
  obtain ⟨bN, oN, rfl, hbN, hcN⟩ := HG.out.2.1.nodes.cells (by omega)
  obtain ⟨AF, cF, g0, g1, hvF⟩ := hcN j hlj
  obtain ⟨nd, hnd⟩ : ∃ nd, h.nodes.getD j nod0 = nd := ⟨_, rfl⟩
  rw [hnd] at g0 g1 hvF
  have hmem : nd ∈ h.nodes := by rw [← hnd, List.getD_eq_getElem?_getD, List.getElem?_eq_getElem hlj]; exact List.getElem_mem hlj
  have ht : g.nodes ++ (h.nodes.take (j + 1)).map (sideN n0) = g.nodes ++ (h.nodes.take j).map (sideN n0) ++ [sideN n0 nd] := by
    have e2 : h.nodes.take (j + 1) = h.nodes.take j ++ [nd] := by
      rw [List.take_add_one, List.getElem?_eq_getElem hlj, ← hnd, List.getD_eq_getElem?_getD, List.getElem?_eq_getElem hlj]
      rfl
    rw [e2, List.map_append, ← List.append_assoc]
    rfl
  have hsm : nd.fs.length ≤ 65536 := slim_mem HP2.out.slim hmem
  have hpm : ∀ v ∈ nd.fs, v.K = 3 → 0 ≤ v.r ∧ v.r < m0 := fun v hv h3 => by
    have h9 := (HP4.out.2.2.2 _ hmem v hv).2.2 h3
    rwa [show h.n = m0 from HL.out.2.2.2.1] at h9
  obtain ⟨K, fs⟩ := nd
  dsimp only at g0 g1 hvF hsm hpm
  have hsn : sideN n0 ⟨K, fs⟩ = ⟨K, fs.map (sideV n0)⟩ := rfl
  rw [hsn] at ht
  have cN0 := (hKw.cell (p := ⟨bN, _, none⟩) hbN (by simp)).trans g0
  have cN1 := (hKw.cell (p := ⟨bN, _, none⟩) hbN (by simp)).trans g1
  have hfc := hvF.nc
  have hfm := hvF.cap
  obtain ⟨mF, hmF⟩ : ∃ mF, fs.length = mF := ⟨_, rfl⟩
  rw [hmF] at cN1 hfc hsm
  have hkx0 : Keep [] wr (wr.alloc (.cells #[.int .i64 K, .slice AF mF cF] 33)) := Keep.alloc _ _
  have hbx0 := Blk.new wr 33 #[.int .i64 K, .slice AF mF cF]
  have hkx1 : Keep [] (wr.alloc (.cells #[.int .i64 K, .slice AF mF cF] 33)) ((wr.alloc (.cells #[.int .i64 K, .slice AF mF cF] 33)).alloc (.cells #[.int .i64 K, .slice none 0 0] 33)) := Keep.alloc _ _
  have hbx := Blk.new (wr.alloc (.cells #[.int .i64 K, .slice AF mF cF] 33)) 33 #[.int .i64 K, .slice none 0 0]
  have cNx := ((hbx0.keep hkx1 (by simp)).cell 1).trans (show _ = some (Value.slice AF mF cF) from rfl)
  have hkx := hkx0.trans hkx1
  rw [show (wr.alloc (.cells #[.int .i64 K, .slice AF mF cF] 33)).heap.size = wr.heap.size + 1 by simp] at hbx
  obtain ⟨w9, hw9⟩ : ∃ w9, w9 = (wr.alloc (.cells #[.int .i64 K, .slice AF mF cF] 33)).alloc (.cells #[.int .i64 K, .slice none 0 0] 33) := ⟨_, rfl⟩
  rw [← hw9] at hkx hbx
  have HV := Lib.hid (And.intro hvF (And.intro hmF hpm))
  have H9 := Lib.hid (And.intro hbo (And.intro hno (And.intro hK (And.intro hkx hbx))))
  have hz9 : w9.heap.size = wr.heap.size + 1 + 1 := by rw [hw9]; simp
  have hOw : O + 1 ≤ wr.heap.size := by have := hK.size; omega
  have hwO : w.heap.size ≤ O := by omega
  have HKW := Lib.hid hKw
  obtain ⟨⟨f0, f1, f2⟩, e0, e1, e2⟩ := HF.out wr hKq
  clear hcN g0 g1 hbo hno hK hkx hkx0 hkx1 hbx hbx0 hvF hpm hmem hnd hKw hKq hsn
  go_upto_region 11 with fail
  rw [← hw9]
  generalize wr = wo at *
  obtain ⟨X, hX⟩ : ∃ X, wo.heap.size + 1 = X := ⟨_, rfl⟩
  rw [hX] at H9 hz9
  try rw [hX]
  have HX := Lib.hid (And.intro hX hOw)
  clear cNx cN0 cN1 f0 f1 f2 e0 e1 e2 hw9 hX
  have hOX : O + 1 < X := by have := HX.out; omega
  go_wp2
  go_loopw [58] (fun x wx => ∃ (q : Nat) (vf : Value), q ≤ mF ∧ x = .int .i64 q ∧ Blk wx X 33 #[.int .i64 K, vf] ∧ wx.ownsRow (X + 1) 36 5 vf q (rowV ((fs.take q).map (sideV n0))) ∧ Keep [X] w9 wx) (fun x _ => mF - (RowKit.intOf x).toNat)
  case atStart => exact ⟨0, _, by omega, rfl, H9.out.2.2.2.2, ⟨rfl, Or.inl ⟨rfl, rfl⟩⟩, Keep.refl _ _⟩
  case round =>
  obtain ⟨q, vf, hq, rfl, hbx, how, hKx⟩ := hrel
  have hKw9 : Keep [] w w9 := HKW.out.trans H9.out.2.2.2.1
  have hwX : w.heap.size ≤ X := by omega
  have hKy : Keep [] w wr := hKw9.since hKx (by simpa using hwX)
  by_cases hqt : q < mF
  case neg =>
    obtain rfl : q = mF := by omega
    rw [show fs.take q = fs by rw [← HV.out.2.1]; exact List.take_length] at how
    obtain ⟨A5, c5, rfl⟩ := owns_sl how
    obtain ⟨vs2, on1, oo1, of1⟩ := H9.out.2.1
    have hlL : (g.nodes ++ (h.nodes.take j).map (sideN n0)).length = n0 + j := by rw [List.length_append, List.length_map, List.length_take, HL.out.1, HL.out.2.2.2.1]; omega
    obtain ⟨LL, hLL⟩ : ∃ LL, g.nodes ++ (h.nodes.take j).map (sideN n0) = LL := ⟨_, rfl⟩
    rw [hLL] at ht hlL on1 of1 oo1
    rw [hlL] at on1 of1
    have hbO := (H9.out.1.keep H9.out.2.2.2.1 (by simp)).keep hKx (by simp; omega)
    have hNe : ∀ {t n s v xs}, World.ownsRow _ (O + 1) t s v n xs → wr.ownsRow (O + 1) t s v n xs := fun {t n s v xs} (h1 : World.ownsRow _ (O + 1) t s v n xs) => owns_keepO (owns_kept h1 H9.out.2.2.2.1) hKx (fun g hg hm => by
      have := (h1.lt g hg).2
      have h2 := HX.out.1
      rw [List.mem_singleton] at hm
      omega)
    have on2 := hNe on1
    have of2 := fun i h0 hi => hNe (of1 i h0 hi)
    have hKO : Keep [O] w6 wr := (H9.out.2.2.1.trans H9.out.2.2.2.1.of_nil).later hKx (by
      intro x hx
      rw [List.mem_singleton] at hx
      subst hx
      exact Or.inl (by have := H9.out.2.2.1.size; have := HX.out; omega))
    have o0 := (hbO.cell 0).trans (show _ = some v0 from rfl)
    have xx0 := (hbx.cell 0).trans (show _ = some (Value.int .i64 K) from rfl)
    have xx1 := (hbx.cell 1).trans (show _ = some (Value.slice A5 q c5) from rfl)
    have hfo := owns_mono how (show O + 1 ≤ X + 1 by omega)
    have kal : Keep [] wr (wr.alloc (.cells #[.int .i64 K, .slice A5 q c5] 33)) := Keep.alloc _ _
    have HNW := Lib.hid (two_new7 wr K (.slice A5 q c5) 33)
    have HO := Lib.hid (owns_kept on2 kal)
    have H12 := Lib.hid (And.intro (hbO.keep kal (by simp)) (And.intro (fun i h0 hi => owns_kept (of2 i h0 hi) kal) (And.intro (owns_kept hfo kal) (hKO.trans kal.of_nil))))
    have hsO : O + 1 ≤ wr.heap.size := by have := hKO.size; omega
    have HOO := Lib.hid oo1
    clear how on1 of1 hbO hNe on2 of2 hKO hfo kal hbx hKx hKw9 hKy oo1
    obtain ⟨ii, hii, hi0, hi1, hi2⟩ := info_of nodparts
    go_wp2_with (at_builtin; refine wpList_append_own_at _ rfl (.tmp 80) (.tmp 82) 22 rfl (O + 1) 33 ii (.agg #[.int .i64 0, .slice none 0 0]) 2 32 Tryd.underlying22 hii hi0 hi1 hi2 rfl (by omega) v0 (n0 + j) (nodC (n0 + j) (fun i => (LL.getD i nod0).K) vs2) rfl HO.out ⟨wr.heap.size, 0, none⟩ 1 1 [.int .i64 K, .slice A5 q c5] rfl ?c1 HNW.out ?c3 ?c4 ?c5 ?c6 ?_)
    case c1 => rfl
    case c3 => intro z hz; simp at hz; rcases hz with rfl | rfl <;> rfl
    case c4 => unfold maxLen; omega
    case c5 => omega
    case c6 => first | omega | (simp; omega)
    intro v' w'' hown2 hgrow _ _
    have hb5 := grown_blk H12.out.1 (by omega) HO.out hgrow
    have hnt : (36 : TypeId) ≠ 33 := by decide
    have hk5 : Keep [O] w6 w'' := H12.out.2.2.2.later (own' := v0.ownBlock.toList) (Keep.grown hgrow (fun k _ e => by rw [e]; simp)) (fun x hx => by
      have := (HO.out.lt x (by simpa using hx)).1
      exact Or.inl (by omega))
    have hn5 : NodMix w w'' (O + 1) 33 36 v' n0 (LL ++ [⟨K, fs.map (sideV n0)⟩]) := NodMix.snoc (vs := vs2) hlL (by omega) hown2 HOO.out (fun i h0 hi => World.ownsRow.kept (H12.out.2.1 i h0 hi) hgrow (owns_apart hnt (H12.out.2.1 i h0 hi) HO.out)) (by
      have hk := World.ownsRow.kept H12.out.2.2.1 hgrow (owns_apart hnt H12.out.2.2.1 HO.out)
      rw [List.length_map, HV.out.2.1]
      exact hk)
    obtain ⟨A9, c9, rfl⟩ := owns_sl hown2
    have og0 := (hb5.cell 0).trans (show _ = some v0 from rfl)
    have fg0 := hb5.frozen 0
    have H6 := Lib.hid (And.intro (hb5.set_ 0 (.slice A9 (n0 + j + 1) c9)) (And.intro (hn5.set (a := ⟨O, 0, none⟩) (by show O < O + 1; omega) (.slice A9 (n0 + j + 1) c9)) (hk5.trans (Keep.setCell (own := [O]) w'' ⟨O, 0, none⟩ (by simp) (.slice A9 (n0 + j + 1) c9)))))
    rw [← ht] at H6
    clear hown2 hb5 hk5 hn5 hgrow
    go_wp2
    go_roundw
    case rel => exact ⟨j + 1, .slice A9 (n0 + j + 1) c9, by omega, by go_num, H6.out.1, H6.out.2.1, H6.out.2.2⟩
    case measure => simp [RowKit.intOf]; omega
  obtain ⟨bF, oF, rfl, hbF, hcF⟩ := HV.out.1.cells (by rw [HV.out.2.1]; omega)
  obtain ⟨q0, q1, q2, q3, q4⟩ := hcF q (by rw [HV.out.2.1]; exact hqt)
  have d0 := (hKy.cell (p := ⟨bF, _, none⟩) hbF (by simp)).trans q0
  have d1 := (hKy.cell (p := ⟨bF, _, none⟩) hbF (by simp)).trans q1
  have d2 := (hKy.cell (p := ⟨bF, _, none⟩) hbF (by simp)).trans q2
  have d3 := (hKy.cell (p := ⟨bF, _, none⟩) hbF (by simp)).trans q3
  have d4 := (hKy.cell (p := ⟨bF, _, none⟩) hbF (by simp)).trans q4
  have hqf : q < fs.length := by rw [HV.out.2.1]; exact hqt
  have hft : (fs.take (q + 1)).map (sideV n0) = (fs.take q).map (sideV n0) ++ [sideV n0 (fs.getD q z0)] := by
    have e2 : fs.take (q + 1) = fs.take q ++ [fs.getD q z0] := by
      rw [List.take_add_one, List.getD_eq_getElem?_getD, List.getElem?_eq_getElem hqf]
      rfl
    rw [e2, List.map_append]
    rfl
  have hvm : fs.getD q z0 ∈ fs := by rw [List.getD_eq_getElem?_getD, List.getElem?_eq_getElem hqf]; exact List.getElem_mem hqf
  have hvr := HV.out.2.2 _ hvm
  obtain ⟨V, hV⟩ : ∃ V, fs.getD q z0 = V := ⟨_, rfl⟩
  rw [hV] at d0 d1 d2 d3 d4 hft hvr
  obtain ⟨x0, x1, x2, x3, x4⟩ := V
  dsimp only at d0 d1 d2 d3 d4 hvr
  have hqI : (q : Int) < mF := by omega
  have ka : Keep [] wr (wr.alloc (.cells #[.int .i64 x0, .int .i64 x1, .int .u64 x2, .int .u64 x3, .int .i64 x4] 36)) := Keep.alloc _ _
  have hbv := Blk.new wr 36 #[.int .i64 x0, .int .i64 x1, .int .u64 x2, .int .u64 x3, .int .i64 x4]
  have H10 := Lib.hid (And.intro (hbx.keep ka (by simp)) (And.intro (owns_kept how ka) (And.intro (hKx.trans ka.of_nil) hbv)))
  have hXV : X < wr.heap.size := hbx.lt
  have hlv := fun g hg => (how.lt g hg).2
  clear hbx how hKx ka hbv hcF q0 q1 q2 q3 q4 hV hvm hKw9 hKy
  go_wp2_with fail
  (with_reducible refine (rplain_v x0 x1 x2 x3 x4 _).mono ?_)
  rintro e wp ⟨rfl, kp⟩
  have hP0 := plainV_K ⟨x0, x1, x2, x3, x4⟩
  have hP4 : x0 = 3 → plainV ⟨x0, x1, x2, x3, x4⟩ = ⟨3, 0, 0, 0, x4⟩ := fun h => by subst h; rfl
  have hP5 : ¬ x0 = 3 → sideV n0 ⟨x0, x1, x2, x3, x4⟩ = plainV ⟨x0, x1, x2, x3, x4⟩ := fun h => if_neg h
  have hP6 : x0 = 3 → sideV n0 ⟨x0, x1, x2, x3, x4⟩ = ⟨3, 0, 0, 0, x4 + n0⟩ := fun h => if_pos h
  obtain ⟨P, hP⟩ : ∃ P, plainV ⟨x0, x1, x2, x3, x4⟩ = P := ⟨_, rfl⟩
  rw [hP] at hP0 hP4 hP5 ⊢
  obtain ⟨p0, p1, p2, p3, p4⟩ := P
  dsimp only at hP0 ⊢
  obtain rfl : x0 = p0 := hP0.symm
  obtain ⟨V, hV⟩ : ∃ V, wr.heap.size = V := ⟨_, rfl⟩
  have hb9 := H10.out.2.2.2.keep kp (by simp)
  have hx9 := H10.out.1.keep kp (by simp)
  have ho9 := owns_kept H10.out.2.1 kp
  have hk9 := H10.out.2.2.1.trans kp.of_nil
  rw [hV] at hb9 hXV ⊢
  have z0 := (hb9.cell 0).trans (show _ = some (Value.int .i64 x0) from rfl)
  have z1 := (hb9.cell 1).trans (show _ = some (Value.int .i64 x1) from rfl)
  have z2 := (hb9.cell 2).trans (show _ = some (Value.int .u64 x2) from rfl)
  have z3 := (hb9.cell 3).trans (show _ = some (Value.int .u64 x3) from rfl)
  have z4 := (hb9.cell 4).trans (show _ = some (Value.int .i64 x4) from rfl)
  have f0 := hb9.frozen 0
  have f1 := hb9.frozen 1
  have f2 := hb9.frozen 2
  have f3 := hb9.frozen 3
  have f4 := hb9.frozen 4
  have HA := Lib.hid (And.intro hb9 (And.intro hx9 (And.intro ho9 hk9)))
  clear d0 d1 d2 d3 d4 hP kp hb9 hx9 ho9 hk9
  go_upto_region 14 with fail
  have hb10 := Blk.set5 HA.out.1 (.int .i64 x0) (.int .i64 p1) (.int .u64 p2) (.int .u64 p3) (.int .i64 p4)
  obtain ⟨wv, hwv⟩ : ∃ wv, wv = (((((wp.setCell ⟨V, 0, none⟩ (.int .i64 x0)).setCell ⟨V, 1, none⟩ (.int .i64 p1)).setCell ⟨V, 2, none⟩ (.int .u64 p2)).setCell ⟨V, 3, none⟩ (.int .u64 p3)).setCell ⟨V, 4, none⟩ (.int .i64 p4)) := ⟨_, rfl⟩
  rw [← hwv] at hb10 ⊢
  have k10 : Keep [V] wp wv := by
    rw [hwv]
    exact ((((Keep.setCell _ _ (by simp) _).trans (Keep.setCell _ _ (by simp) _)).trans (Keep.setCell _ _ (by simp) _)).trans (Keep.setCell _ _ (by simp) _)).trans (Keep.setCell _ _ (by simp) _)
  have hVo : ∀ g, vf.ownBlock = some g → g ∉ [V] := fun g hg hm => by
    have := hlv g hg
    rw [List.mem_singleton] at hm
    omega
  have hVw9 : w9.heap.size ≤ V := by have := HA.out.2.2.2.size; have := H10.out.2.2.1.size; have := hV; omega
  have H11 := Lib.hid (And.intro hb10 (And.intro (HA.out.2.1.keep k10 (by simp; omega)) (And.intro (owns_keepO HA.out.2.2.1 k10 hVo) (And.intro (HA.out.2.2.2.later k10 (by simp; omega)) hVo))))
  clear hb10 k10 hVo hwv HA H10 hlv z0 z1 z2 z3 z4 f0 f1 f2 f3 f4 hV
  have z0 := (H11.out.1.cell 0).trans (show _ = some (Value.int .i64 x0) from rfl)
  by_cases h3 : x0 = 3
  · subst h3
    have e9 := hP4 rfl
    obtain ⟨_, rfl, rfl, rfl, rfl⟩ := Val.mk.inj e9
    have hr0 := (hvr rfl).1
    have hr1 := (hvr rfl).2
    have z4 := (H11.out.1.cell 4).trans (show _ = some (Value.int .i64 p4) from rfl)
    have f4 := H11.out.1.frozen 4
    have HR := Lib.hid (hP6 rfl)
    have h11b := H11.out.1.set_ 4 (.int .i64 (p4 + n0))
    clear hP0 hP4 hP5 hP6
    have hsum : wrap64 (p4 + (n0 : Int)) = p4 + n0 := by unfold wrap64; omega
    go_upto_region 16 with fail
    have k11 : Keep [V] wv (wv.setCell ⟨V, 4, none⟩ (.int .i64 (p4 + n0))) := Keep.setCell _ _ (by simp) _
    have HV5 := Lib.hid (And.intro (show Blk (wv.setCell ⟨V, 4, none⟩ (.int .i64 (p4 + n0))) V 36 #[.int .i64 3, .int .i64 0, .int .u64 0, .int .u64 0, .int .i64 (p4 + n0)] from h11b) (And.intro (H11.out.2.1.keep k11 (by simp; omega)) (And.intro (owns_keepO H11.out.2.2.1 k11 H11.out.2.2.2.2) (And.intro (H11.out.2.2.2.1.later k11 (by simp; omega)) H11.out.2.2.2.2))))
    obtain ⟨wz, hwz⟩ : ∃ wz, wz = wv.setCell ⟨V, 4, none⟩ (.int .i64 (p4 + n0)) := ⟨_, rfl⟩
    rw [← hwz] at HV5 ⊢
    clear H11 z0 z4 f4 h11b k11 hwz hsum
    generalize p4 + (n0 : Int) = y4 at *
    obtain ⟨LL, hLL⟩ : ∃ LL, (fs.take q).map (sideV n0) = LL := ⟨_, rfl⟩
    rw [hLL] at hft HV5
    have z0 := (HV5.out.1.cell 0).trans (show _ = some (Value.int .i64 3) from rfl)
    have z1 := (HV5.out.1.cell 1).trans (show _ = some (Value.int .i64 0) from rfl)
    have z2 := (HV5.out.1.cell 2).trans (show _ = some (Value.int .u64 0) from rfl)
    have z3 := (HV5.out.1.cell 3).trans (show _ = some (Value.int .u64 0) from rfl)
    have z4 := (HV5.out.1.cell 4).trans (show _ = some (Value.int .i64 y4) from rfl)
    have xf1 := (HV5.out.2.1.cell 1).trans (show _ = some vf from rfl)
    have HNW := Lib.hid (five_new wz 3 0 0 0 y4 36)
    have HO := Lib.hid (owns_kept HV5.out.2.2.1 (show Keep [] wz (wz.alloc (.cells #[.int .i64 3, .int .i64 0, .int .u64 0, .int .u64 0, .int .i64 y4] 36)) from Keep.alloc _ _))
    have hsX := HV5.out.2.2.2.1.size
    obtain ⟨ii, hii, hi0, hi1, hi2⟩ := info_of valpart5
    go_wp2_with (at_builtin; refine wpList_append_own_at _ rfl (.tmp 73) (.tmp 75) 31 rfl (X + 1) 36 ii (.agg #[.int .i64 0, .int .i64 0, .int .u64 0, .int .u64 0, .int .i64 0]) 5 40 Tryd.underlying31 hii hi0 hi1 hi2 rfl (by omega) vf q (rowV LL) rfl HO.out ⟨wz.heap.size, 0, none⟩ 1 1 (cellsV ⟨3, 0, 0, 0, y4⟩) rfl ?c1 HNW.out ?c3 ?c4 ?c5 ?c6 ?_)
    case c1 => rfl
    case c3 => intro z hz; simp [cellsV] at hz; rcases hz with rfl | rfl | rfl | rfl | rfl <;> rfl
    case c4 => unfold maxLen; omega
    case c5 => omega
    case c6 => first | omega | (simp; omega)
    intro v' w'' hown2 hgrow _ _
    have hx5 := grown_blk (HV5.out.2.1.keep (Keep.alloc (own := []) _ _) (by simp)) (by omega) HO.out hgrow
    have hk5 : Keep [X] w9 w'' := by
      refine (HV5.out.2.2.2.1.trans (Keep.alloc _ (.cells #[.int .i64 3, .int .i64 0, .int .u64 0, .int .u64 0, .int .i64 y4] 36))).later (own' := vf.ownBlock.toList) (Keep.grown hgrow (fun k _ e => by rw [e]; simp)) (fun x hx => ?_)
      have := (HO.out.lt x (by simpa using hx)).1
      omega
    have xg1 := (hx5.cell 1).trans (show _ = some vf from rfl)
    have fg1 := hx5.frozen 1
    have hown3 : w''.ownsRow (X + 1) 36 5 v' (q + 1) (rowV ((fs.take (q + 1)).map (sideV n0))) := by
      rw [hft, rowV_snoc, HR.out]
      exact hown2
    obtain ⟨A9, c9, rfl⟩ := owns_sl hown3
    have H6 := Lib.hid (And.intro (hx5.set_ 1 (.slice A9 (q + 1) c9)) (And.intro (ownsRow_setCell_below hown3 (a := ⟨X, 1, none⟩) (by show X < X + 1; omega) (.slice A9 (q + 1) c9)) (hk5.trans (Keep.setCell (own := [X]) w'' ⟨X, 1, none⟩ (by simp) (.slice A9 (q + 1) c9)))))
    clear hown2 hown3 hx5 hk5 hgrow
    go_wp2
    go_roundw
    case rel => exact ⟨q + 1, .slice A9 (q + 1) c9, by omega, by go_num, H6.out.1, H6.out.2.1, H6.out.2.2⟩
    case measure => simp [RowKit.intOf]; omega
  · have h3' : (x0 == 3) = false := by simpa using h3
    have HR := Lib.hid (hP5 h3)
    clear hP4 hP5 hP6
    go_upto_region 16 with fail
    have HV5 := H11
    clear H11 z0
    obtain ⟨LL, hLL⟩ : ∃ LL, (fs.take q).map (sideV n0) = LL := ⟨_, rfl⟩
    rw [hLL] at hft HV5
    have z0 := (HV5.out.1.cell 0).trans (show _ = some (Value.int .i64 x0) from rfl)
    have z1 := (HV5.out.1.cell 1).trans (show _ = some (Value.int .i64 p1) from rfl)
    have z2 := (HV5.out.1.cell 2).trans (show _ = some (Value.int .u64 p2) from rfl)
    have z3 := (HV5.out.1.cell 3).trans (show _ = some (Value.int .u64 p3) from rfl)
    have z4 := (HV5.out.1.cell 4).trans (show _ = some (Value.int .i64 p4) from rfl)
    have xf1 := (HV5.out.2.1.cell 1).trans (show _ = some vf from rfl)
    have HNW := Lib.hid (five_new wv x0 p1 p2 p3 p4 36)
    have HO := Lib.hid (owns_kept HV5.out.2.2.1 (show Keep [] wv (wv.alloc (.cells #[.int .i64 x0, .int .i64 p1, .int .u64 p2, .int .u64 p3, .int .i64 p4] 36)) from Keep.alloc _ _))
    have hsX := HV5.out.2.2.2.1.size
    obtain ⟨ii, hii, hi0, hi1, hi2⟩ := info_of valpart5
    go_wp2_with (at_builtin; refine wpList_append_own_at _ rfl (.tmp 73) (.tmp 75) 31 rfl (X + 1) 36 ii (.agg #[.int .i64 0, .int .i64 0, .int .u64 0, .int .u64 0, .int .i64 0]) 5 40 Tryd.underlying31 hii hi0 hi1 hi2 rfl (by omega) vf q (rowV LL) rfl HO.out ⟨wv.heap.size, 0, none⟩ 1 1 (cellsV ⟨x0, p1, p2, p3, p4⟩) rfl ?c1 HNW.out ?c3 ?c4 ?c5 ?c6 ?_)
    case c1 => rfl
    case c3 => intro z hz; simp [cellsV] at hz; rcases hz with rfl | rfl | rfl | rfl | rfl <;> rfl
    case c4 => unfold maxLen; omega
    case c5 => omega
    case c6 => first | omega | (simp; omega)
    intro v' w'' hown2 hgrow _ _
    have hx5 := grown_blk (HV5.out.2.1.keep (Keep.alloc (own := []) _ _) (by simp)) (by omega) HO.out hgrow
    have hk5 : Keep [X] w9 w'' := by
      refine (HV5.out.2.2.2.1.trans (Keep.alloc _ (.cells #[.int .i64 x0, .int .i64 p1, .int .u64 p2, .int .u64 p3, .int .i64 p4] 36))).later (own' := vf.ownBlock.toList) (Keep.grown hgrow (fun k _ e => by rw [e]; simp)) (fun x hx => ?_)
      have := (HO.out.lt x (by simpa using hx)).1
      omega
    have xg1 := (hx5.cell 1).trans (show _ = some vf from rfl)
    have fg1 := hx5.frozen 1
    have hown3 : w''.ownsRow (X + 1) 36 5 v' (q + 1) (rowV ((fs.take (q + 1)).map (sideV n0))) := by
      rw [hft, rowV_snoc, HR.out]
      exact hown2
    obtain ⟨A9, c9, rfl⟩ := owns_sl hown3
    have H6 := Lib.hid (And.intro (hx5.set_ 1 (.slice A9 (q + 1) c9)) (And.intro (ownsRow_setCell_below hown3 (a := ⟨X, 1, none⟩) (by show X < X + 1; omega) (.slice A9 (q + 1) c9)) (hk5.trans (Keep.setCell (own := [X]) w'' ⟨X, 1, none⟩ (by simp) (.slice A9 (q + 1) c9)))))
    clear hown2 hown3 hx5 hk5 hgrow
    go_wp2
    go_roundw
    case rel => exact ⟨q + 1, .slice A9 (q + 1) c9, by omega, by go_num, H6.out.1, H6.out.2.1, H6.out.2.2⟩
    case measure => simp [RowKit.intOf]; omega
end Go.Proofs.YtigclopkoolocaaDoor
