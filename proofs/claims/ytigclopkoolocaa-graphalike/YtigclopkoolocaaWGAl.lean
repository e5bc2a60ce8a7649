/-
  GraphAlike walked. No conditions but what is in memory.
-/
import Derived.Test.YtigclopkoolocaaGt2
import Derived.Test.YtigclopkoolocaaGt3
import Derived.Test.YtigclopkoolocaaWGTd
import Derived.Test.YtigclopkoolocaaSas
import Derived.Test.YtigclopkoolocaaGt4
import Derived.Deep.RegionHeld3
import Derived.Deep.DeepCutAuto
namespace Go.Proofs.Ytigclopkoolocaa
open Go.RowKit Go.Flo Go.Bit
set_option maxRecDepth 100000

theorem src2 {W : World} {b : Nat} {t : TypeId} {x : Int} {v : Value} (h : Blk W b t #[.int .i64 x, v]) : ∀ j u, [Value.int .i64 x, v][j]? = some u → W.cell? ((⟨b, 0, none⟩ : Addr).add j) = some u := by
  intro j u hu
  rw [addr_add0, Nat.zero_add, h.cell, ← hu]
  simp

theorem turn_slim {g : Gr} {t : Nat} (h : Slim g) (ht : t < g.n) : Slim (turnG g t) := by
  refine ⟨?_, ?_, fun i hi => ?_⟩
  · show (g.roots.map _).length ≤ _; rw [List.length_map]; exact h.1
  · show (g.weaks.map _).length ≤ _; rw [List.length_map]; exact h.2.1
  · rw [turnG_n] at hi
    unfold turnG
    show ((List.map _ (List.range g.n)).getD i nod0).fs.length ≤ _
    rw [List.getD_eq_getElem?_getD]
    simp only [List.getElem?_map, List.getElem?_range hi, Option.map_some, Option.getD_some, List.length_map]
    exact h.2.2 _ (Nat.mod_lt _ (by omega))

theorem more_slim {g : Gr} {a : Nat} (hM : MayG g) (h : Light12 g) (x : Int) (ha : a < (trimG g).n) : Slim (moreG (trimG g) a x) := by
  have hs := trim_slim hM h.slim
  have hl : ∀ i, i < (trimG g).n → ((trimG g).at i).fs.length ≤ 30 := fun i hi => by
    have hn : (trimG g).n = (orderG g g.roots).length := trimR_n _ _
    rw [hn] at hi
    have e : (trimG g).at i = _ := trimR_at g (orderG g g.roots) hi
    rw [e]
    dsimp only
    rw [List.length_map]
    exact h.2.2.2 _ ((orderG_fine g g.roots).2 _ (List.getElem_mem hi))
  refine ⟨hs.1, hs.2.1, fun i hi => ?_⟩
  rw [moreG_n] at hi
  rw [moreG_at x hi]
  by_cases e : i = a
  · subst e
    rw [if_pos rfl]
    dsimp only
    rw [List.length_append]
    have := hl i hi
    simp only [List.length_cons, List.length_nil]
    omega
  · rw [if_neg e]
    have := hl i hi
    omega

theorem owns_ne_blk {w : World} {B n size b : Nat} {t t' : TypeId} {v : Value} {xs : List Value} {cs : Array Value} (ht : t ≠ t') (h : w.ownsRow B t size v n xs) (hb : Blk w b t' cs) : v.ownBlock ≠ some b := by
  rcases h.2 with ⟨rfl, _⟩ | ⟨g, cap, cur, rfl, _, h3, _⟩
  · simp [Value.ownBlock]
  · intro e
    simp [Value.ownBlock] at e
    subst e
    have h4 : w.heap[g]? = some (.cells cs t' (0, 0)) := hb
    rw [h3] at h4
    injection h4 with e
    injection e with _ e
    exact ht e

set_option maxHeartbeats 20000000 in
theorem walk_galike (w : World) (A0 A1 A2 AJ : Option Addr) (c0 c1 c2 cj : Nat) (g : Gr) (bi KJ ai xi : Int) (fj : List Val) (h : GIn w A0 A1 A2 c0 c1 c2 g) (hJ : Vals w AJ fj.length cj (fun j => fj.getD j z0)) (hbi : -9223372036854775808 ≤ bi ∧ bi ≤ 9223372036854775807) (hai : -9223372036854775808 ≤ ai ∧ ai ≤ 9223372036854775807) :
    Calls Try.prog 5 #[.agg #[.slice A0 g.nodes.length c0, .slice A1 g.roots.length c1, .slice A2 g.weaks.length c2], .int .i64 bi, .agg #[.int .i64 KJ, .slice AJ fj.length cj], .int .i64 ai, .int .i64 xi] w fun e w' => e = .returned (.bool true) ∧ Keep [] w w' := by
  have m1 := fun W (hk : Keep [] w W) => mayg_any W A0 A1 A2 c0 c1 c2 g (h.keep hk)
  have tr := fun W (hk : Keep [] w W) hs => trim_any W A0 A1 A2 c0 c1 c2 g (h.keep hk) hs
  have tu := fun W t n (hn : g.n = n) (ht : t < n) (hk : Keep [] w W) hM hs => turned_any W A0 A1 A2 c0 c1 c2 g t n hn ht (h.keep hk) hM hs
  have al := fun W B0 B1 B2 d0 d1 d2 b (hk : Keep [] w W) (h' : GIn W B0 B1 B2 d0 d1 d2 b) hs hs' => alike_any W A0 A1 A2 B0 B1 B2 c0 c1 c2 d0 d1 d2 g b (h.keep hk) h' hs hs'
  have li := fun W (hk : Keep [] w W) => light12_any W A0 A1 A2 c0 c1 c2 g (h.keep hk)
  have AW := Lib.hid awake12_any
  have hnc := h.nodes.nc
  have hncm := h.nodes.cap
  obtain ⟨n0, hn0⟩ : ∃ n, g.nodes.length = n := ⟨_, rfl⟩
  obtain ⟨qj, hqj⟩ : ∃ q, fj.length = q := ⟨_, rfl⟩
  have hjc := hJ.nc
  have hjm := hJ.cap
  rw [hqj] at hJ hjc ⊢
  have HG := Lib.hid (And.intro h (And.intro hJ (And.intro hn0 hqj)))
  rw [hn0] at m1 tr tu al li hnc ⊢
  clear h hJ hn0 hqj
  generalize hn1 : g.roots.length = n1 at *
  generalize hn2 : g.weaks.length = n2 at *
  have HNL := Lib.hid (And.intro hn1 hn2)
  clear hn1 hn2
  have ka : Keep [] w (w.alloc (.cells #[.slice A0 n0 c0, .slice A1 n1 c1, .slice A2 n2 c2] 25)) := Keep.alloc _ _
  have hba := Blk.new w 25 #[.slice A0 n0 c0, .slice A1 n1 c1, .slice A2 n2 c2]
  obtain ⟨wa, hwa⟩ : ∃ wa, wa = w.alloc (.cells #[.slice A0 n0 c0, .slice A1 n1 c1, .slice A2 n2 c2] 25) := ⟨_, rfl⟩
  have hza : wa.heap.size = w.heap.size + 1 := by rw [hwa]; simp
  rw [← hwa] at ka hba
  have kb : Keep [] wa (wa.alloc (.cells #[.int .i64 KJ, .slice AJ qj cj] 35)) := Keep.alloc _ _
  have hbj := Blk.new wa 35 #[.int .i64 KJ, .slice AJ qj cj]
  obtain ⟨w1, hw1⟩ : ∃ w1, w1 = wa.alloc (.cells #[.int .i64 KJ, .slice AJ qj cj] 35) := ⟨_, rfl⟩
  rw [← hw1] at kb hbj
  rw [hza] at hbj
  rw [hwa] at hw1
  have hba := hba.keep kb (by simp)
  have ka := ka.trans kb
  have hf := fun W (hk : Keep [] w1 W) => And.intro (((hba.keep hk (by simp)).cell 0).trans (show _ = some (Value.slice A0 n0 c0) from rfl)) (And.intro (((hba.keep hk (by simp)).cell 1).trans (show _ = some (Value.slice A1 n1 c1) from rfl)) (((hba.keep hk (by simp)).cell 2).trans (show _ = some (Value.slice A2 n2 c2) from rfl)))
  unfold GrPost at tr tu
  have M1 := Lib.hid (fun W (hk : Keep [] w1 W) => m1 W (ka.trans hk))
  have TR := Lib.hid (fun W (hk : Keep [] w1 W) => tr W (ka.trans hk))
  have TU := Lib.hid (fun W t n hn ht (hk : Keep [] w1 W) => tu W t n hn ht (ka.trans hk))
  have AL := Lib.hid (fun W B0 B1 B2 d0 d1 d2 b (hk : Keep [] w1 W) => al W B0 B1 B2 d0 d1 d2 b (ka.trans hk))
  have HF := Lib.hid hf
  have HKA := Lib.hid ka
  have HBA := Lib.hid (And.intro hba hbj)
  have hli := li w1 ka
  obtain ⟨p, hp⟩ : ∃ p, decide (Light12 g) = p := ⟨_, rfl⟩
  rw [hp] at hli
  have HLI := Lib.hid hp
  clear hp m1 tr tu al hf li ka kb hba hbj hza hwa
  cases p with
  | false =>
    go_enter Try.func5, Try.ntmps5
    go_wp2_with fail
    rw [← hw1]
    (with_reducible refine hli.mono ?_)
    rintro e w2 ⟨rfl, k2⟩
    have haw := AW.out w2
    have HK := Lib.hid (HKA.out.trans k2)
    clear k2 hli
    go_wp2_with fail
    (with_reducible refine haw.mono ?_)
    rintro e w3 ⟨rfl, k3⟩
    have HK3 := Lib.hid (HK.out.trans k3)
    clear k3 haw
    go_wp2
    go_ret
    exact ⟨rfl, HK3.out⟩
  | true =>
  go_enter Try.func5, Try.ntmps5
  go_wp2_with fail
  rw [← hw1]
  (with_reducible refine hli.mono ?_)
  rintro e w2 ⟨rfl, k2⟩
  have hm := M1.out w2 k2
  have HK2 := Lib.hid k2
  obtain ⟨f0, f1, f2⟩ := HF.out w2 k2
  clear k2 hli hw1
  by_cases hM : MayG g
  case neg =>
    rw [decide_eq_false hM] at hm
    clear hM
    have HKB := Lib.hid (HKA.out.trans HK2.out)
    go_wp2_with fail
    clear f0 f1 f2
    (with_reducible refine hm.mono ?_)
    rintro e w9 ⟨rfl, k9⟩
    have haw := AW.out w9
    have HK := Lib.hid (HKB.out.trans k9)
    clear k9 hm
    go_wp2_with fail
    (with_reducible refine haw.mono ?_)
    rintro e w10 ⟨rfl, k10⟩
    have HK3 := Lib.hid (HK.out.trans k10)
    clear k10 haw
    go_wp2
    go_ret
    exact ⟨rfl, HK3.out⟩
  rw [decide_eq_true hM] at hm
  have HM := Lib.hid hM
  have hsl : Slim g := (of_decide_eq_true HLI.out).slim
  have HSL := Lib.hid hsl
  clear hM hsl
  have hn60 : n0 ≤ 60 := by have := (of_decide_eq_true HLI.out : Light12 g).1; rwa [show g.n = n0 from HG.out.2.2.1] at this
  go_wp2_with fail
  (with_reducible refine hm.mono ?_)
  rintro e w3 ⟨rfl, k3⟩
  have k3' := HK2.out.trans k3
  have HK3 := Lib.hid k3'
  clear k3 k3' hm f0 f1 f2
  obtain ⟨f0, f1, f2⟩ := HF.out w3 HK3.out
  by_cases h00 : n0 = 0
  · have h00' : ((n0 : Int) == 0) = true := by simp [h00]
    have haw := AW.out w3
    have HKB := Lib.hid (HKA.out.trans HK3.out)
    clear h00
    go_wp2_with fail
    (with_reducible refine haw.mono ?_)
    rintro e w4 ⟨rfl, k4⟩
    have HK4 := Lib.hid (HKB.out.trans k4)
    clear k4 haw f0 f1 f2
    go_wp2
    go_ret
    exact ⟨rfl, HK4.out⟩
  have h00' : ((n0 : Int) == 0) = false := by simp [h00]
  have h00n : ¬ (n0 : Int) = 0 := by omega
  obtain ⟨ub, hub⟩ : ∃ u : Nat, IntKind.u64.wrap bi = u := ⟨(IntKind.u64.wrap bi).toNat, by rw [IntKind.wrap_u64]; omega⟩
  have hub2 : ub < 18446744073709551616 := by rw [IntKind.wrap_u64] at hub; omega
  have hwn : IntKind.u64.wrap (n0 : Int) = (n0 : Int) := by rw [IntKind.wrap_u64]; omega
  obtain ⟨T, hT⟩ : ∃ T, ub % n0 = T := ⟨_, rfl⟩
  have hTn : T < n0 := by rw [← hT]; exact Nat.mod_lt _ (by omega)
  have hT1 : (ub : Int) % n0 = (T : Nat) := by rw [← hT]; first | rfl | simp | exact (Int.natCast_emod ub n0).symm
  have hT2 : (ub : Int).tmod n0 = (T : Nat) := by rw [Int.tmod_eq_emod_of_nonneg (by omega)]; exact hT1
  have hT3 : IntKind.i64.wrap (T : Int) = (T : Int) := by rw [IntKind.wrap_i64]; omega
  have hT4 : IntKind.u64.wrap (T : Int) = (T : Int) := by rw [IntKind.wrap_u64]; omega
  clear hT h00
  have htu := TU.out w3 T n0 (show g.n = n0 from HG.out.2.2.1) hTn HK3.out HM.out HSL.out
  obtain ⟨tg, htg⟩ : ∃ tg, turnG g T = tg := ⟨_, rfl⟩
  have HTG := Lib.hid htg
  rw [htg] at htu
  obtain ⟨a0, ha0⟩ : ∃ a, tg.nodes.length = a := ⟨_, rfl⟩
  obtain ⟨a1, ha1⟩ : ∃ a, tg.roots.length = a := ⟨_, rfl⟩
  obtain ⟨a2, ha2⟩ : ∃ a, tg.weaks.length = a := ⟨_, rfl⟩
  have HAL := Lib.hid (And.intro ha0 (And.intro ha1 ha2))
  rw [ha0, ha1, ha2] at htu
  clear htg ha0 ha1 ha2
  go_wp2_with fail
  (with_reducible refine htu.mono ?_)
  rintro e w5 ⟨E0, E1, E2, x0, x1, x2, rfl, hg1, k5⟩
  have k5' := HK3.out.trans k5
  clear htu f0 f1 f2 hT1 hT2 hT3 hT4 hub hwn h00n
  have k6 : Keep [] w5 (w5.alloc (.cells #[.slice E0 a0 x0, .slice E1 a1 x1, .slice E2 a2 x2] 25)) := Keep.alloc _ _
  have b11 := Blk.new w5 25 #[.slice E0 a0 x0, .slice E1 a1 x1, .slice E2 a2 x2]
  obtain ⟨w6, hw6⟩ : ∃ w6, w6 = w5.alloc (.cells #[.slice E0 a0 x0, .slice E1 a1 x1, .slice E2 a2 x2] 25) := ⟨_, rfl⟩
  rw [← hw6] at k6 b11
  have k6' := k5'.trans k6
  obtain ⟨f0, f1, f2⟩ := HF.out w6 k6'
  have htr := TR.out w6 k6' HSL.out
  rw [show trimE g = trimG g from if_pos HM.out] at htr
  obtain ⟨td, htd⟩ : ∃ td, trimG g = td := ⟨_, rfl⟩
  have HTD := Lib.hid htd
  rw [htd] at htr
  obtain ⟨d0, hd0⟩ : ∃ a, td.nodes.length = a := ⟨_, rfl⟩
  obtain ⟨d1, hd1⟩ : ∃ a, td.roots.length = a := ⟨_, rfl⟩
  obtain ⟨d2, hd2⟩ : ∃ a, td.weaks.length = a := ⟨_, rfl⟩
  have HDL := Lib.hid (And.intro hd0 (And.intro hd1 hd2))
  rw [hd0, hd1, hd2] at htr
  have H6 := Lib.hid (And.intro b11 (And.intro (hg1.keep k6) k6'))
  have HW6 := Lib.hid hw6
  clear htd hd0 hd1 hd2 k5 k5' k6 k6' b11 hw6 hg1
  go_upto_region 5 with fail
  rw [← HW6.out]
  go_wp2_with fail
  (with_reducible refine htr.mono ?_)
  rintro e w7 ⟨G0, G1, G2, y0, y1, y2, rfl, hg2, k7⟩
  have k8 : Keep [] w7 (w7.alloc (.cells #[.slice G0 d0 y0, .slice G1 d1 y1, .slice G2 d2 y2] 25)) := Keep.alloc _ _
  have b12 := Blk.new w7 25 #[.slice G0 d0 y0, .slice G1 d1 y1, .slice G2 d2 y2]
  obtain ⟨w8, hw8⟩ : ∃ w8, w8 = w7.alloc (.cells #[.slice G0 d0 y0, .slice G1 d1 y1, .slice G2 d2 y2] 25) := ⟨_, rfl⟩
  rw [← hw8] at k8 b12
  have b11 := H6.out.1.keep (k7.trans k8) (by simp)
  have hg1 := H6.out.2.1.keep (k7.trans k8)
  have hg2 := hg2.keep k8
  have k8' := H6.out.2.2.trans (k7.trans k8)
  clear htr f0 f1 f2
  have hf9 := fun W (hk : Keep [] w8 W) => And.intro (HF.out W (k8'.trans hk)) (And.intro
    (And.intro (((b11.keep hk (by simp)).cell 0).trans (show _ = some (Value.slice E0 a0 x0) from rfl)) (And.intro (((b11.keep hk (by simp)).cell 1).trans (show _ = some (Value.slice E1 a1 x1) from rfl)) (((b11.keep hk (by simp)).cell 2).trans (show _ = some (Value.slice E2 a2 x2) from rfl))))
    (And.intro (((b12.keep hk (by simp)).cell 0).trans (show _ = some (Value.slice G0 d0 y0) from rfl)) (And.intro (((b12.keep hk (by simp)).cell 1).trans (show _ = some (Value.slice G1 d1 y1) from rfl)) (((b12.keep hk (by simp)).cell 2).trans (show _ = some (Value.slice G2 d2 y2) from rfl)))))
  have HF9 := Lib.hid hf9
  have hst : Slim tg := by rw [← HTG.out]; exact turn_slim HSL.out (by rw [show g.n = n0 from HG.out.2.2.1]; exact hTn)
  have hsd : Slim td := by rw [← HTD.out]; exact trim_slim HM.out HSL.out
  have hmt : MayG tg := by rw [← HTG.out]; exact turn_may HM.out (by rw [show g.n = n0 from HG.out.2.2.1]; exact hTn)
  have hmd : MayG td := by rw [← HTD.out]; exact trim_may HM.out
  have htt : trimG tg = td := by rw [← HTG.out, turn_trim HM.out (by rw [show g.n = n0 from HG.out.2.2.1]; exact hTn)]; exact HTD.out
  have htdd : trimG td = td := by rw [← HTD.out]; exact trim_trim HM.out
  have HPD := Lib.hid (And.intro hst (And.intro hsd (And.intro hmt (And.intro hmd (And.intro htt htdd)))))
  have q1 := fun W (hk : Keep [] w8 W) => AL.out W E0 E1 E2 x0 x1 x2 tg (k8'.trans hk) (hg1.keep hk) HSL.out hst
  have q2 := fun W (hk : Keep [] w8 W) => AL.out W G0 G1 G2 y0 y1 y2 td (k8'.trans hk) (hg2.keep hk) HSL.out hsd
  have q3 := fun W (hk : Keep [] w8 W) => trim_any W G0 G1 G2 y0 y1 y2 td (hg2.keep hk) hsd
  have q5 := fun W (hk : Keep [] w8 W) => alike_any W E0 E1 E2 G0 G1 G2 x0 x1 x2 y0 y1 y2 tg td (hg1.keep hk) (hg2.keep hk) hst hsd
  have q4 := fun W B0 B1 B2 z0 z1 z2 (hk : Keep [] w8 W) (h' : GIn W B0 B1 B2 z0 z1 z2 td) => rsameg_any W B0 B1 B2 G0 G1 G2 z0 z1 z2 y0 y1 y2 td td h' (hg2.keep hk)
  unfold GrPost at q3
  rw [show trimE td = td by rw [show trimE td = trimG td from if_pos hmd]; exact htdd] at q3
  rw [HAL.out.1, HAL.out.2.1, HAL.out.2.2, decide_eq_true (show AlikeG g tg from ⟨HM.out, hmt, by rw [htt]; exact HTD.out⟩)] at q1
  rw [HDL.out.1, HDL.out.2.1, HDL.out.2.2, decide_eq_true (show AlikeG g td from ⟨HM.out, hmd, by rw [htdd]; exact HTD.out⟩)] at q2
  rw [HDL.out.1, HDL.out.2.1, HDL.out.2.2] at q3
  rw [HDL.out.1, HDL.out.2.1, HDL.out.2.2, decide_eq_true (SameG.refl hmd)] at q4
  rw [HAL.out.1, HAL.out.2.1, HAL.out.2.2, HDL.out.1, HDL.out.2.1, HDL.out.2.2, decide_eq_true (show AlikeG tg td from ⟨hmt, hmd, by rw [htt, htdd]⟩)] at q5
  have Q1 := Lib.hid q1
  have Q2 := Lib.hid q2
  have Q3 := Lib.hid q3
  have Q4 := Lib.hid q4
  have Q5 := Lib.hid q5
  have H8 := Lib.hid (And.intro k8' (And.intro hg2 b12))
  have HW8 := Lib.hid hw8
  obtain ⟨⟨f0, f1, f2⟩, ⟨e0, e1, e2⟩, g0, g1, g2⟩ := hf9 w8.drew (Keep.drew _)
  clear q1 q2 q3 q4 q5 hst hsd hmt hmd htt htdd hf9 b11 b12 hg1 hg2 k7 k8 k8' hw8
  obtain ⟨p11, hp11⟩ : ∃ p, w5.heap.size = p := ⟨_, rfl⟩
  obtain ⟨p12, hp12⟩ : ∃ p, w7.heap.size = p := ⟨_, rfl⟩
  rw [hp11] at HF9 e0 e1 e2
  rw [hp12] at HF9 g0 g1 g2 H8
  go_upto_region 6 with fail
  rw [← HW8.out]
  go_wp2_with fail
  go_region_held3 (fun w' => w'.cell? ⟨w.heap.size, 0, none⟩ = some (.slice A0 n0 c0) ∧ w'.cell? ⟨w.heap.size, 1, none⟩ = some (.slice A1 n1 c1) ∧ w'.cell? ⟨w.heap.size, 2, none⟩ = some (.slice A2 n2 c2) ∧ w'.cell? ⟨p11, 0, none⟩ = some (.slice E0 a0 x0) ∧ w'.cell? ⟨p11, 1, none⟩ = some (.slice E1 a1 x1) ∧ w'.cell? ⟨p11, 2, none⟩ = some (.slice E2 a2 x2) ∧ w'.cell? ⟨p12, 0, none⟩ = some (.slice G0 d0 y0) ∧ w'.cell? ⟨p12, 1, none⟩ = some (.slice G1 d1 y1) ∧ w'.cell? ⟨p12, 2, none⟩ = some (.slice G2 d2 y2)) (first | exact ⟨f0, f1, f2, e0, e1, e2, g0, g1, g2⟩ | go_keep) (first
    | (go_at_call 18; with_reducible refine (Q1.out _ (Keep.drew _)).mono ?_; rintro e v1 ⟨rfl, k1⟩; have k1 := (Keep.drew (own := []) w8).trans k1; obtain ⟨⟨f0, f1, f2⟩, ⟨e0, e1, e2⟩, g0, g1, g2⟩ := HF9.out _ k1)
    | (go_at_call 18; with_reducible refine (Q2.out _ k1).mono ?_; rintro e v2 ⟨rfl, k2⟩; have k2 := k1.trans k2; obtain ⟨⟨f0, f1, f2⟩, ⟨e0, e1, e2⟩, g0, g1, g2⟩ := HF9.out _ k2)
    | (go_at_call 17; with_reducible refine (Q3.out _ k2).mono ?_; rintro e v3 ⟨B0, B1, B2, b0, b1, b2, rfl, hgt, k3⟩; have k3 := k2.trans k3; obtain ⟨⟨f0, f1, f2⟩, ⟨e0, e1, e2⟩, g0, g1, g2⟩ := HF9.out _ k3)
    | (go_at_call 20; with_reducible refine (Q4.out _ _ _ _ _ _ _ k3 hgt).mono ?_; rintro e v4 ⟨rfl, k4⟩; have k4 := k3.trans k4; obtain ⟨⟨f0, f1, f2⟩, ⟨e0, e1, e2⟩, g0, g1, g2⟩ := HF9.out _ k4)
    | (go_at_call 18; with_reducible refine (Q5.out _ k4).mono ?_; rintro e v5 ⟨rfl, k5⟩; have k5 := k4.trans k5; obtain ⟨⟨f0, f1, f2⟩, ⟨e0, e1, e2⟩, g0, g1, g2⟩ := HF9.out _ k5))
  have HJB := Lib.hid (HBA.out.2.keep (H8.out.1.trans k5) (by simp))
  have jb1 := (HJB.out.cell 1).trans (show _ = some (Value.slice AJ qj cj) from rfl)
  have HK5 := Lib.hid k5
  clear k1 k2 k3 k4 k5 hgt f0 f1 f2 e0 e1 e2 g0 g1 g2
  go_upto_if 69 with fail
  go_cut [13] (fun s13 wx => Keep [] w8 wx)
  case first =>
    by_cases hq30 : qj < 30
    case neg =>
      have hq30' : ¬ ((qj : Int) < 30) := by omega
      go_wp2_with fail
      go_meet
      exact HK5.out
    have hq30' : ((qj : Int) < 30) := by omega
    obtain ⟨f0, f1, f2⟩ := (HF9.out v5 HK5.out).1
    have jb0 := (HJB.out.cell 0).trans (show _ = some (Value.int .i64 KJ) from rfl)
    go_upto_region 9 with fail
    have hgv := HG.out.1.keep (HKA.out.trans (H8.out.1.trans HK5.out))
    obtain ⟨vs, hv0, hv1, hv2⟩ := nodl_vs hgv.nodes
    have hynm := hgv.nodes.nc
    have hyncap := hgv.nodes.cap
    have hgl := HG.out.2.2.1
    rw [hgl] at hv0 hv1 hv2 hynm
    have HVV := Lib.hid hv2
    have HVS := Lib.hid (fun W (hk : Keep [] v5 W) => (show ∀ ad, A0 = some ad → ∀ j u, (nodC n0 (fun i => (g.nodes.getD i nod0).K) vs)[j]? = some u → W.cell? (ad.add j) = some u from fun ad had j u hu => by
      obtain ⟨b, o, e, hb⟩ := hv0 (by
        have := (List.getElem?_eq_some_iff.1 hu).1
        rw [nodC_len] at this
        omega)
      have h1 := hv1 ad had j u hu
      rw [had] at e
      obtain rfl : ad = ⟨b, o, none⟩ := by simpa using e
      rw [addr_add0] at h1 ⊢
      exact (hk.cell (p := ⟨b, o + j, none⟩) hb (by simp)).trans h1))
    have hGn : A0 = none → n0 = 0 := fun e => by
      rcases Nat.eq_zero_or_pos n0 with h0 | h0
      · exact h0
      · obtain ⟨b, o, e2, _⟩ := hv0 h0
        rw [e] at e2
        cases e2
    have hone : ∀ u ∈ nodC n0 (fun i => (g.nodes.getD i nod0).K) vs, u.oneCell' = true := fun u hu => by
      obtain ⟨j, hj, rfl⟩ := List.getElem_of_mem hu
      rw [nodC_len] at hj
      obtain ⟨q1, q2⟩ := nodC_get (fun i => (g.nodes.getD i nod0).K) vs (i := j / 2) (show j / 2 < n0 by omega)
      obtain ⟨A', c', e, _⟩ := hv2 (j / 2) (by omega)
      rcases (show j = j / 2 * 2 ∨ j = j / 2 * 2 + 1 by omega) with e2 | e2
      · have : (nodC n0 (fun i => (g.nodes.getD i nod0).K) vs)[j]? = some (.int .i64 (g.nodes.getD (j / 2) nod0).K) := by rw [e2]; simpa using q1
        rw [List.getElem?_eq_getElem (by rw [nodC_len]; omega)] at this
        rw [Option.some.inj this]
        rfl
      · have : (nodC n0 (fun i => (g.nodes.getD i nod0).K) vs)[j]? = some (vs (j / 2)) := by
          have h9 : (j / 2 * 2 + 1) / 2 = j / 2 := by omega
          rw [e2, h9]; exact q2
        rw [List.getElem?_eq_getElem (by rw [nodC_len]; omega)] at this
        rw [Option.some.inj this, e]
        rfl
    have hone2 : ∀ u ∈ [Value.int .i64 KJ, Value.slice AJ qj cj], u.oneCell' = true := fun u hu => by
      simp at hu
      rcases hu with rfl | rfl <;> rfl
    obtain ⟨NC, hNC⟩ : ∃ NC, nodC n0 (fun i => (g.nodes.getD i nod0).K) vs = NC := ⟨_, rfl⟩
    have hNCl : NC.length = n0 * 2 := by rw [← hNC, nodC_len]
    rw [hNC] at HVS hone
    have HNC := Lib.hid hNC
    clear hv0 hv1 hv2 hNC hgv
    go_cut [13] (fun s13 wx => ∃ b An cn, s13 = .pointer (some ⟨b, 0, none⟩) ∧ Blk wx b 25 #[.slice An (n0 + 1) cn, .slice A1 n1 c1, .slice A2 n2 c2] ∧ wx.ownsRow v5.heap.size 35 2 (.slice An (n0 + 1) cn) (n0 + 1) (NC ++ [.int .i64 KJ, .slice AJ qj cj]) ∧ Keep [] v5 wx)
    case first =>
      obtain ⟨ii, hii, hi0, hi1, hi2⟩ := info_of nodparts
      have k0 : Keep [] v5 v5.drew := ((Keep.refl [] v5)).trans (Keep.drew (own := []) _)
      have K0 := Lib.hid k0
      clear k0
      have k0A : Keep [] v5 ((v5.alloc (.cells #[.slice none 0 0, .slice none 0 0, .slice none 0 0] 25))).drew := ((Keep.alloc (own := []) _ _)).trans (Keep.drew (own := []) _)
      have g0A : Blk ((v5.alloc (.cells #[.slice none 0 0, .slice none 0 0, .slice none 0 0] 25))).drew v5.heap.size 25 #[.slice none 0 0, .slice none 0 0, .slice none 0 0] := (Blk.new v5 25 #[.slice none 0 0, .slice none 0 0, .slice none 0 0]).keep (Keep.drew (own := []) _) (by simp)
      have K0A := Lib.hid k0A
      have G0A := Lib.hid g0A
      clear k0A g0A
      have k0B : Keep [] v5 ((v5.alloc (.cells #[.int .i64 KJ, .slice AJ qj cj] 35))).drew := ((Keep.alloc (own := []) _ _)).trans (Keep.drew (own := []) _)
      have b0B : Blk ((v5.alloc (.cells #[.int .i64 KJ, .slice AJ qj cj] 35))).drew v5.heap.size 35 #[.int .i64 KJ, .slice AJ qj cj] := (Blk.new v5 35 #[.int .i64 KJ, .slice AJ qj cj]).keep (Keep.drew (own := []) _) (by simp)
      have K0B := Lib.hid k0B
      have B0B := Lib.hid b0B
      clear k0B b0B
      have k0BA : Keep [] v5 (((v5.alloc (.cells #[.int .i64 KJ, .slice AJ qj cj] 35)).alloc (.cells #[.slice none 0 0, .slice none 0 0, .slice none 0 0] 25))).drew := (((Keep.alloc (own := []) _ _).trans (Keep.alloc (own := []) _ _))).trans (Keep.drew (own := []) _)
      have b0BA : Blk (((v5.alloc (.cells #[.int .i64 KJ, .slice AJ qj cj] 35)).alloc (.cells #[.slice none 0 0, .slice none 0 0, .slice none 0 0] 25))).drew v5.heap.size 35 #[.int .i64 KJ, .slice AJ qj cj] := ((Blk.new v5 35 #[.int .i64 KJ, .slice AJ qj cj]).keep (Keep.alloc (own := []) _ _) (by simp)).keep (Keep.drew (own := []) _) (by simp)
      have g0BA : Blk (((v5.alloc (.cells #[.int .i64 KJ, .slice AJ qj cj] 35)).alloc (.cells #[.slice none 0 0, .slice none 0 0, .slice none 0 0] 25))).drew (v5.heap.size + 1) 25 #[.slice none 0 0, .slice none 0 0, .slice none 0 0] := (by have h9 := (Blk.new (v5.alloc (.cells #[.int .i64 KJ, .slice AJ qj cj] 35)) 25 #[.slice none 0 0, .slice none 0 0, .slice none 0 0]).keep (Keep.drew (own := []) _) (by simp); rw [alloc_sz] at h9; exact h9)
      have K0BA := Lib.hid k0BA
      have B0BA := Lib.hid b0BA
      have G0BA := Lib.hid g0BA
      clear k0BA b0BA g0BA
      have k0AB : Keep [] v5 (((v5.alloc (.cells #[.slice none 0 0, .slice none 0 0, .slice none 0 0] 25)).alloc (.cells #[.int .i64 KJ, .slice AJ qj cj] 35))).drew := (((Keep.alloc (own := []) _ _).trans (Keep.alloc (own := []) _ _))).trans (Keep.drew (own := []) _)
      have g0AB : Blk (((v5.alloc (.cells #[.slice none 0 0, .slice none 0 0, .slice none 0 0] 25)).alloc (.cells #[.int .i64 KJ, .slice AJ qj cj] 35))).drew v5.heap.size 25 #[.slice none 0 0, .slice none 0 0, .slice none 0 0] := ((Blk.new v5 25 #[.slice none 0 0, .slice none 0 0, .slice none 0 0]).keep (Keep.alloc (own := []) _ _) (by simp)).keep (Keep.drew (own := []) _) (by simp)
      have b0AB : Blk (((v5.alloc (.cells #[.slice none 0 0, .slice none 0 0, .slice none 0 0] 25)).alloc (.cells #[.int .i64 KJ, .slice AJ qj cj] 35))).drew (v5.heap.size + 1) 35 #[.int .i64 KJ, .slice AJ qj cj] := (by have h9 := (Blk.new (v5.alloc (.cells #[.slice none 0 0, .slice none 0 0, .slice none 0 0] 25)) 35 #[.int .i64 KJ, .slice AJ qj cj]).keep (Keep.drew (own := []) _) (by simp); rw [alloc_sz] at h9; exact h9)
      have K0AB := Lib.hid k0AB
      have B0AB := Lib.hid b0AB
      have G0AB := Lib.hid g0AB
      clear k0AB b0AB g0AB
      go_wp2_with fail
      go_region_held3 (fun w' => w'.cell? ⟨w.heap.size, 0, none⟩ = some (.slice A0 n0 c0) ∧ w'.cell? ⟨w.heap.size, 1, none⟩ = some (.slice A1 n1 c1) ∧ w'.cell? ⟨w.heap.size, 2, none⟩ = some (.slice A2 n2 c2) ∧ w'.cell? ⟨w.heap.size + 1, 0, none⟩ = some (.int .i64 KJ) ∧ w'.cell? ⟨w.heap.size + 1, 1, none⟩ = some (.slice AJ qj cj)) (first | exact ⟨f0, f1, f2, jb0, jb1⟩ | with_reducible exact ⟨y0, y1, y2, y3, y4⟩ | go_keep) (first
      | ((with_reducible refine at_world v5.drew ?_); refine step_append_src rfl (.const (.slice none 0 0)) (.tmp 71) 22 rfl v5.heap.size 35 ii (.agg #[.int .i64 0, .slice none 0 0]) 2 32 Try.underlying22 hii hi0 hi1 hi2 rfl (by omega) (.slice none 0 0) 0 [] rfl ⟨rfl, Or.inl ⟨rfl, rfl⟩⟩ A0 n0 c0 NC (by first | rfl | simp [Act.eval, Act.put]) hNCl hGn (HVS.out _ K0.out) hone (by unfold maxLen; omega) (by omega) K0.out.size ?_; intro v1 v2 hown hgrow _; have hown2 : v2.ownsRow v5.heap.size 35 2 v1 n0 NC := (by simpa using hown); obtain ⟨An, cn, rfl⟩ := owns_sl hown2; have kg : Keep [] _ v2 := (Keep.grown (own := []) hgrow (fun k _ e => by simp [Value.ownBlock] at e)); have kq : Keep [] v5 v2 := K0.out.trans kg; obtain ⟨f0, f1, f2⟩ := (HF9.out v2 (HK5.out.trans kq)).1; have jbb := HJB.out.keep kq (by simp); have jb0 := (jbb.cell 0).trans (show _ = some (Value.int .i64 KJ) from rfl); have jb1 := (jbb.cell 1).trans (show _ = some (Value.slice AJ qj cj) from rfl); clear jbb hown hgrow kg; have HKQ := Lib.hid (And.intro hown2 kq); clear hown2 kq; have tag0 := trivial)
      | ((with_reducible refine at_world ((v5.alloc (.cells #[.slice none 0 0, .slice none 0 0, .slice none 0 0] 25))).drew ?_); refine step_append_src rfl (.const (.slice none 0 0)) (.tmp 71) 22 rfl v5.heap.size 35 ii (.agg #[.int .i64 0, .slice none 0 0]) 2 32 Try.underlying22 hii hi0 hi1 hi2 rfl (by omega) (.slice none 0 0) 0 [] rfl ⟨rfl, Or.inl ⟨rfl, rfl⟩⟩ A0 n0 c0 NC (by first | rfl | simp [Act.eval, Act.put]) hNCl hGn (HVS.out _ K0A.out) hone (by unfold maxLen; omega) (by omega) K0A.out.size ?_; intro v1 v2 hown hgrow _; have hown2 : v2.ownsRow v5.heap.size 35 2 v1 n0 NC := (by simpa using hown); obtain ⟨An, cn, rfl⟩ := owns_sl hown2; have kg : Keep [] _ v2 := (Keep.grown (own := []) hgrow (fun k _ e => by simp [Value.ownBlock] at e)); have kq : Keep [] v5 v2 := K0A.out.trans kg; have gq := G0A.out.keep kg (by simp); obtain ⟨f0, f1, f2⟩ := (HF9.out v2 (HK5.out.trans kq)).1; have jbb := HJB.out.keep kq (by simp); have jb0 := (jbb.cell 0).trans (show _ = some (Value.int .i64 KJ) from rfl); have jb1 := (jbb.cell 1).trans (show _ = some (Value.slice AJ qj cj) from rfl); clear jbb hown hgrow kg; have HKQ := Lib.hid (And.intro hown2 kq); have HGQ := Lib.hid gq; clear gq; clear hown2 kq; have tagA := trivial)
      | ((with_reducible refine at_world ((v5.alloc (.cells #[.int .i64 KJ, .slice AJ qj cj] 35))).drew ?_); refine step_append_src rfl (.const (.slice none 0 0)) (.tmp 71) 22 rfl v5.heap.size 35 ii (.agg #[.int .i64 0, .slice none 0 0]) 2 32 Try.underlying22 hii hi0 hi1 hi2 rfl (by omega) (.slice none 0 0) 0 [] rfl ⟨rfl, Or.inl ⟨rfl, rfl⟩⟩ A0 n0 c0 NC (by first | rfl | simp [Act.eval, Act.put]) hNCl hGn (HVS.out _ K0B.out) hone (by unfold maxLen; omega) (by omega) K0B.out.size ?_; intro v1 v2 hown hgrow _; have hown2 : v2.ownsRow v5.heap.size 35 2 v1 n0 NC := (by simpa using hown); obtain ⟨An, cn, rfl⟩ := owns_sl hown2; have kg : Keep [] _ v2 := (Keep.grown (own := []) hgrow (fun k _ e => by simp [Value.ownBlock] at e)); have kq : Keep [] v5 v2 := K0B.out.trans kg; have bq := B0B.out.keep kg (by simp); obtain ⟨f0, f1, f2⟩ := (HF9.out v2 (HK5.out.trans kq)).1; have jbb := HJB.out.keep kq (by simp); have jb0 := (jbb.cell 0).trans (show _ = some (Value.int .i64 KJ) from rfl); have jb1 := (jbb.cell 1).trans (show _ = some (Value.slice AJ qj cj) from rfl); clear jbb hown hgrow kg; have HKQ := Lib.hid (And.intro hown2 kq); have HBQ := Lib.hid bq; clear bq; clear hown2 kq; have tagB := trivial)
      | ((with_reducible refine at_world (((v5.alloc (.cells #[.int .i64 KJ, .slice AJ qj cj] 35)).alloc (.cells #[.slice none 0 0, .slice none 0 0, .slice none 0 0] 25))).drew ?_); refine step_append_src rfl (.const (.slice none 0 0)) (.tmp 71) 22 rfl v5.heap.size 35 ii (.agg #[.int .i64 0, .slice none 0 0]) 2 32 Try.underlying22 hii hi0 hi1 hi2 rfl (by omega) (.slice none 0 0) 0 [] rfl ⟨rfl, Or.inl ⟨rfl, rfl⟩⟩ A0 n0 c0 NC (by first | rfl | simp [Act.eval, Act.put]) hNCl hGn (HVS.out _ K0BA.out) hone (by unfold maxLen; omega) (by omega) K0BA.out.size ?_; intro v1 v2 hown hgrow _; have hown2 : v2.ownsRow v5.heap.size 35 2 v1 n0 NC := (by simpa using hown); obtain ⟨An, cn, rfl⟩ := owns_sl hown2; have kg : Keep [] _ v2 := (Keep.grown (own := []) hgrow (fun k _ e => by simp [Value.ownBlock] at e)); have kq : Keep [] v5 v2 := K0BA.out.trans kg; have bq := B0BA.out.keep kg (by simp); have gq := G0BA.out.keep kg (by simp); obtain ⟨f0, f1, f2⟩ := (HF9.out v2 (HK5.out.trans kq)).1; have jbb := HJB.out.keep kq (by simp); have jb0 := (jbb.cell 0).trans (show _ = some (Value.int .i64 KJ) from rfl); have jb1 := (jbb.cell 1).trans (show _ = some (Value.slice AJ qj cj) from rfl); clear jbb hown hgrow kg; have HKQ := Lib.hid (And.intro hown2 kq); have HBQ := Lib.hid bq; clear bq; have HGQ := Lib.hid gq; clear gq; clear hown2 kq; have tagBA := trivial)
      | ((with_reducible refine at_world (((v5.alloc (.cells #[.slice none 0 0, .slice none 0 0, .slice none 0 0] 25)).alloc (.cells #[.int .i64 KJ, .slice AJ qj cj] 35))).drew ?_); refine step_append_src rfl (.const (.slice none 0 0)) (.tmp 71) 22 rfl v5.heap.size 35 ii (.agg #[.int .i64 0, .slice none 0 0]) 2 32 Try.underlying22 hii hi0 hi1 hi2 rfl (by omega) (.slice none 0 0) 0 [] rfl ⟨rfl, Or.inl ⟨rfl, rfl⟩⟩ A0 n0 c0 NC (by first | rfl | simp [Act.eval, Act.put]) hNCl hGn (HVS.out _ K0AB.out) hone (by unfold maxLen; omega) (by omega) K0AB.out.size ?_; intro v1 v2 hown hgrow _; have hown2 : v2.ownsRow v5.heap.size 35 2 v1 n0 NC := (by simpa using hown); obtain ⟨An, cn, rfl⟩ := owns_sl hown2; have kg : Keep [] _ v2 := (Keep.grown (own := []) hgrow (fun k _ e => by simp [Value.ownBlock] at e)); have kq : Keep [] v5 v2 := K0AB.out.trans kg; have bq := B0AB.out.keep kg (by simp); have gq := G0AB.out.keep kg (by simp); obtain ⟨f0, f1, f2⟩ := (HF9.out v2 (HK5.out.trans kq)).1; have jbb := HJB.out.keep kq (by simp); have jb0 := (jbb.cell 0).trans (show _ = some (Value.int .i64 KJ) from rfl); have jb1 := (jbb.cell 1).trans (show _ = some (Value.slice AJ qj cj) from rfl); clear jbb hown hgrow kg; have HKQ := Lib.hid (And.intro hown2 kq); have HBQ := Lib.hid bq; clear bq; have HGQ := Lib.hid gq; clear gq; clear hown2 kq; have tagAB := trivial)
      | (have _ := tag0; (with_reducible refine at_world (v2.alloc (.cells #[.int .i64 KJ, .slice AJ qj cj] 35)) ?_); have k2 : Keep [] v2 (v2.alloc (.cells #[.int .i64 KJ, .slice AJ qj cj] 35)) := (Keep.alloc (own := []) _ _); have b2 : Blk (v2.alloc (.cells #[.int .i64 KJ, .slice AJ qj cj] 35)) v2.heap.size 35 #[.int .i64 KJ, .slice AJ qj cj] := Blk.new v2 35 #[.int .i64 KJ, .slice AJ qj cj]; refine step_append_src rfl (.tmp 72) (.tmp 74) 22 rfl v5.heap.size 35 ii (.agg #[.int .i64 0, .slice none 0 0]) 2 32 Try.underlying22 hii hi0 hi1 hi2 rfl (by omega) (.slice An n0 cn) n0 NC (by first | rfl | simp [Act.eval, Act.put]) (owns_kept HKQ.out.1 k2) (some ⟨v2.heap.size, 0, none⟩) 1 1 [.int .i64 KJ, .slice AJ qj cj] (by first | rfl | simp [Act.eval, Act.put]) rfl (fun e => by cases e) (fun ad e => by cases e; exact src2 b2) hone2 (by unfold maxLen; omega) (by omega) (Nat.le_trans HKQ.out.2.size k2.size) ?_; intro v3 v4 hown3 hgrow3 _; obtain ⟨Am, cm, rfl⟩ := owns_sl hown3; have kg3 := (Keep.grown (own := (Value.slice An n0 cn).ownBlock.toList) hgrow3 (fun k _ e => by simp [e])); have kz : Keep [] v5 v4 := (HKQ.out.2.trans k2).later (own' := (Value.slice An n0 cn).ownBlock.toList) kg3 (fun q hq => Or.inl (HKQ.out.1.lt q (by simpa using hq)).1); have HFIN := Lib.hid (And.intro (Blk.new v4 25 #[.slice Am (n0 + 1) cm, .slice A1 n1 c1, .slice A2 n2 c2]) (And.intro (owns_kept hown3 (Keep.alloc (own := []) v4 (.cells #[.slice Am (n0 + 1) cm, .slice A1 n1 c1, .slice A2 n2 c2] 25))) (kz.trans (Keep.alloc (own := []) v4 (.cells #[.slice Am (n0 + 1) cm, .slice A1 n1 c1, .slice A2 n2 c2] 25))))); obtain ⟨f0, f1, f2⟩ := (HF9.out v4 (HK5.out.trans kz)).1; have jbb := HJB.out.keep kz (by simp); have jb0 := (jbb.cell 0).trans (show _ = some (Value.int .i64 KJ) from rfl); have jb1 := (jbb.cell 1).trans (show _ = some (Value.slice AJ qj cj) from rfl); clear jbb hgrow3 kg3 hown3 kz k2 b2)
      | (have _ := tag0; (with_reducible refine at_world ((v2.alloc (.cells #[.int .i64 KJ, .slice AJ qj cj] 35)).alloc (.cells #[.slice none 0 0, .slice none 0 0, .slice none 0 0] 25)) ?_); have k2 : Keep [] v2 ((v2.alloc (.cells #[.int .i64 KJ, .slice AJ qj cj] 35)).alloc (.cells #[.slice none 0 0, .slice none 0 0, .slice none 0 0] 25)) := ((Keep.alloc (own := []) _ _).trans (Keep.alloc (own := []) _ _)); have b2 : Blk ((v2.alloc (.cells #[.int .i64 KJ, .slice AJ qj cj] 35)).alloc (.cells #[.slice none 0 0, .slice none 0 0, .slice none 0 0] 25)) v2.heap.size 35 #[.int .i64 KJ, .slice AJ qj cj] := (Blk.new v2 35 #[.int .i64 KJ, .slice AJ qj cj]).keep (Keep.alloc (own := []) _ _) (by simp); have g2 : Blk ((v2.alloc (.cells #[.int .i64 KJ, .slice AJ qj cj] 35)).alloc (.cells #[.slice none 0 0, .slice none 0 0, .slice none 0 0] 25)) (v2.heap.size + 1) 25 #[.slice none 0 0, .slice none 0 0, .slice none 0 0] := (by have h9 := Blk.new (v2.alloc (.cells #[.int .i64 KJ, .slice AJ qj cj] 35)) 25 #[.slice none 0 0, .slice none 0 0, .slice none 0 0]; rw [alloc_sz] at h9; exact h9); refine step_append_src rfl (.tmp 72) (.tmp 74) 22 rfl v5.heap.size 35 ii (.agg #[.int .i64 0, .slice none 0 0]) 2 32 Try.underlying22 hii hi0 hi1 hi2 rfl (by omega) (.slice An n0 cn) n0 NC (by first | rfl | simp [Act.eval, Act.put]) (owns_kept HKQ.out.1 k2) (some ⟨v2.heap.size, 0, none⟩) 1 1 [.int .i64 KJ, .slice AJ qj cj] (by first | rfl | simp [Act.eval, Act.put]) rfl (fun e => by cases e) (fun ad e => by cases e; exact src2 b2) hone2 (by unfold maxLen; omega) (by omega) (Nat.le_trans HKQ.out.2.size k2.size) ?_; intro v3 v4 hown3 hgrow3 _; obtain ⟨Am, cm, rfl⟩ := owns_sl hown3; have kg3 := (Keep.grown (own := (Value.slice An n0 cn).ownBlock.toList) hgrow3 (fun k _ e => by simp [e])); have kz : Keep [] v5 v4 := (HKQ.out.2.trans k2).later (own' := (Value.slice An n0 cn).ownBlock.toList) kg3 (fun q hq => Or.inl (HKQ.out.1.lt q (by simpa using hq)).1); have bz := g2.keep kg3 (fun hm => owns_ne_blk (by decide) (owns_kept HKQ.out.1 k2) g2 (by simpa using hm)); have z0 := (bz.cell 0).trans (show _ = some (Value.slice none 0 0) from rfl); have z1 := (bz.cell 1).trans (show _ = some (Value.slice none 0 0) from rfl); have z2 := (bz.cell 2).trans (show _ = some (Value.slice none 0 0) from rfl); have u0 := bz.frozen 0; have u1 := bz.frozen 1; have u2 := bz.frozen 2; have hk9 : Keep [v2.heap.size + 1] v4 (((v4.setCell ⟨v2.heap.size + 1, 0, none⟩ (.slice Am (n0 + 1) cm)).setCell ⟨v2.heap.size + 1, 1, none⟩ (.slice A1 n1 c1)).setCell ⟨v2.heap.size + 1, 2, none⟩ (.slice A2 n2 c2)) := ((Keep.setCell _ _ (by simp) _).trans (Keep.setCell _ _ (by simp) _)).trans (Keep.setCell _ _ (by simp) _); have kz9 : Keep [] v5 (((v4.setCell ⟨v2.heap.size + 1, 0, none⟩ (.slice Am (n0 + 1) cm)).setCell ⟨v2.heap.size + 1, 1, none⟩ (.slice A1 n1 c1)).setCell ⟨v2.heap.size + 1, 2, none⟩ (.slice A2 n2 c2)) := kz.since hk9 (by have := HKQ.out.2.size; simp; try omega); have HFIN := Lib.hid (And.intro (Blk.set3 bz (.slice Am (n0 + 1) cm) (.slice A1 n1 c1) (.slice A2 n2 c2)) (And.intro (owns_keepO hown3 hk9 (fun q9 hq9 hm9 => owns_ne_blk (by decide) hown3 bz (by simp at hm9; rw [hq9, hm9]))) kz9)); obtain ⟨y0, y1, y2⟩ := (HF9.out _ (HK5.out.trans kz9)).1; have jby := HJB.out.keep kz9 (by simp); have y3 := (jby.cell 0).trans (show _ = some (Value.int .i64 KJ) from rfl); have y4 := (jby.cell 1).trans (show _ = some (Value.slice AJ qj cj) from rfl); clear jby hk9 kz9 g2 bz; obtain ⟨f0, f1, f2⟩ := (HF9.out v4 (HK5.out.trans kz)).1; have jbb := HJB.out.keep kz (by simp); have jb0 := (jbb.cell 0).trans (show _ = some (Value.int .i64 KJ) from rfl); have jb1 := (jbb.cell 1).trans (show _ = some (Value.slice AJ qj cj) from rfl); clear jbb hgrow3 kg3 hown3 kz k2 b2)
      | (have _ := tag0; (with_reducible refine at_world ((v2.alloc (.cells #[.slice none 0 0, .slice none 0 0, .slice none 0 0] 25)).alloc (.cells #[.int .i64 KJ, .slice AJ qj cj] 35)) ?_); have k2 : Keep [] v2 ((v2.alloc (.cells #[.slice none 0 0, .slice none 0 0, .slice none 0 0] 25)).alloc (.cells #[.int .i64 KJ, .slice AJ qj cj] 35)) := ((Keep.alloc (own := []) _ _).trans (Keep.alloc (own := []) _ _)); have g2 : Blk ((v2.alloc (.cells #[.slice none 0 0, .slice none 0 0, .slice none 0 0] 25)).alloc (.cells #[.int .i64 KJ, .slice AJ qj cj] 35)) v2.heap.size 25 #[.slice none 0 0, .slice none 0 0, .slice none 0 0] := (Blk.new v2 25 #[.slice none 0 0, .slice none 0 0, .slice none 0 0]).keep (Keep.alloc (own := []) _ _) (by simp); have b2 : Blk ((v2.alloc (.cells #[.slice none 0 0, .slice none 0 0, .slice none 0 0] 25)).alloc (.cells #[.int .i64 KJ, .slice AJ qj cj] 35)) (v2.heap.size + 1) 35 #[.int .i64 KJ, .slice AJ qj cj] := (by have h9 := Blk.new (v2.alloc (.cells #[.slice none 0 0, .slice none 0 0, .slice none 0 0] 25)) 35 #[.int .i64 KJ, .slice AJ qj cj]; rw [alloc_sz] at h9; exact h9); refine step_append_src rfl (.tmp 72) (.tmp 74) 22 rfl v5.heap.size 35 ii (.agg #[.int .i64 0, .slice none 0 0]) 2 32 Try.underlying22 hii hi0 hi1 hi2 rfl (by omega) (.slice An n0 cn) n0 NC (by first | rfl | simp [Act.eval, Act.put]) (owns_kept HKQ.out.1 k2) (some ⟨v2.heap.size + 1, 0, none⟩) 1 1 [.int .i64 KJ, .slice AJ qj cj] (by first | rfl | simp [Act.eval, Act.put]) rfl (fun e => by cases e) (fun ad e => by cases e; exact src2 b2) hone2 (by unfold maxLen; omega) (by omega) (Nat.le_trans HKQ.out.2.size k2.size) ?_; intro v3 v4 hown3 hgrow3 _; obtain ⟨Am, cm, rfl⟩ := owns_sl hown3; have kg3 := (Keep.grown (own := (Value.slice An n0 cn).ownBlock.toList) hgrow3 (fun k _ e => by simp [e])); have kz : Keep [] v5 v4 := (HKQ.out.2.trans k2).later (own' := (Value.slice An n0 cn).ownBlock.toList) kg3 (fun q hq => Or.inl (HKQ.out.1.lt q (by simpa using hq)).1); have bz := g2.keep kg3 (fun hm => owns_ne_blk (by decide) (owns_kept HKQ.out.1 k2) g2 (by simpa using hm)); have z0 := (bz.cell 0).trans (show _ = some (Value.slice none 0 0) from rfl); have z1 := (bz.cell 1).trans (show _ = some (Value.slice none 0 0) from rfl); have z2 := (bz.cell 2).trans (show _ = some (Value.slice none 0 0) from rfl); have u0 := bz.frozen 0; have u1 := bz.frozen 1; have u2 := bz.frozen 2; have hk9 : Keep [v2.heap.size] v4 (((v4.setCell ⟨v2.heap.size, 0, none⟩ (.slice Am (n0 + 1) cm)).setCell ⟨v2.heap.size, 1, none⟩ (.slice A1 n1 c1)).setCell ⟨v2.heap.size, 2, none⟩ (.slice A2 n2 c2)) := ((Keep.setCell _ _ (by simp) _).trans (Keep.setCell _ _ (by simp) _)).trans (Keep.setCell _ _ (by simp) _); have kz9 : Keep [] v5 (((v4.setCell ⟨v2.heap.size, 0, none⟩ (.slice Am (n0 + 1) cm)).setCell ⟨v2.heap.size, 1, none⟩ (.slice A1 n1 c1)).setCell ⟨v2.heap.size, 2, none⟩ (.slice A2 n2 c2)) := kz.since hk9 (by have := HKQ.out.2.size; simp; try omega); have HFIN := Lib.hid (And.intro (Blk.set3 bz (.slice Am (n0 + 1) cm) (.slice A1 n1 c1) (.slice A2 n2 c2)) (And.intro (owns_keepO hown3 hk9 (fun q9 hq9 hm9 => owns_ne_blk (by decide) hown3 bz (by simp at hm9; rw [hq9, hm9]))) kz9)); obtain ⟨y0, y1, y2⟩ := (HF9.out _ (HK5.out.trans kz9)).1; have jby := HJB.out.keep kz9 (by simp); have y3 := (jby.cell 0).trans (show _ = some (Value.int .i64 KJ) from rfl); have y4 := (jby.cell 1).trans (show _ = some (Value.slice AJ qj cj) from rfl); clear jby hk9 kz9 g2 bz; obtain ⟨f0, f1, f2⟩ := (HF9.out v4 (HK5.out.trans kz)).1; have jbb := HJB.out.keep kz (by simp); have jb0 := (jbb.cell 0).trans (show _ = some (Value.int .i64 KJ) from rfl); have jb1 := (jbb.cell 1).trans (show _ = some (Value.slice AJ qj cj) from rfl); clear jbb hgrow3 kg3 hown3 kz k2 b2)
      | (have _ := tagA; (with_reducible refine at_world (v2.alloc (.cells #[.int .i64 KJ, .slice AJ qj cj] 35)) ?_); have k2 : Keep [] v2 (v2.alloc (.cells #[.int .i64 KJ, .slice AJ qj cj] 35)) := (Keep.alloc (own := []) _ _); have b2 : Blk (v2.alloc (.cells #[.int .i64 KJ, .slice AJ qj cj] 35)) v2.heap.size 35 #[.int .i64 KJ, .slice AJ qj cj] := Blk.new v2 35 #[.int .i64 KJ, .slice AJ qj cj]; have g2 := HGQ.out.keep k2 (by simp); refine step_append_src rfl (.tmp 72) (.tmp 74) 22 rfl v5.heap.size 35 ii (.agg #[.int .i64 0, .slice none 0 0]) 2 32 Try.underlying22 hii hi0 hi1 hi2 rfl (by omega) (.slice An n0 cn) n0 NC (by first | rfl | simp [Act.eval, Act.put]) (owns_kept HKQ.out.1 k2) (some ⟨v2.heap.size, 0, none⟩) 1 1 [.int .i64 KJ, .slice AJ qj cj] (by first | rfl | simp [Act.eval, Act.put]) rfl (fun e => by cases e) (fun ad e => by cases e; exact src2 b2) hone2 (by unfold maxLen; omega) (by omega) (Nat.le_trans HKQ.out.2.size k2.size) ?_; intro v3 v4 hown3 hgrow3 _; obtain ⟨Am, cm, rfl⟩ := owns_sl hown3; have kg3 := (Keep.grown (own := (Value.slice An n0 cn).ownBlock.toList) hgrow3 (fun k _ e => by simp [e])); have kz : Keep [] v5 v4 := (HKQ.out.2.trans k2).later (own' := (Value.slice An n0 cn).ownBlock.toList) kg3 (fun q hq => Or.inl (HKQ.out.1.lt q (by simpa using hq)).1); have bz := g2.keep kg3 (fun hm => owns_ne_blk (by decide) (owns_kept HKQ.out.1 k2) g2 (by simpa using hm)); have z0 := (bz.cell 0).trans (show _ = some (Value.slice none 0 0) from rfl); have z1 := (bz.cell 1).trans (show _ = some (Value.slice none 0 0) from rfl); have z2 := (bz.cell 2).trans (show _ = some (Value.slice none 0 0) from rfl); have u0 := bz.frozen 0; have u1 := bz.frozen 1; have u2 := bz.frozen 2; have hk9 : Keep [v5.heap.size] v4 (((v4.setCell ⟨v5.heap.size, 0, none⟩ (.slice Am (n0 + 1) cm)).setCell ⟨v5.heap.size, 1, none⟩ (.slice A1 n1 c1)).setCell ⟨v5.heap.size, 2, none⟩ (.slice A2 n2 c2)) := ((Keep.setCell _ _ (by simp) _).trans (Keep.setCell _ _ (by simp) _)).trans (Keep.setCell _ _ (by simp) _); have kz9 : Keep [] v5 (((v4.setCell ⟨v5.heap.size, 0, none⟩ (.slice Am (n0 + 1) cm)).setCell ⟨v5.heap.size, 1, none⟩ (.slice A1 n1 c1)).setCell ⟨v5.heap.size, 2, none⟩ (.slice A2 n2 c2)) := kz.since hk9 (by have := HKQ.out.2.size; simp; try omega); have HFIN := Lib.hid (And.intro (Blk.set3 bz (.slice Am (n0 + 1) cm) (.slice A1 n1 c1) (.slice A2 n2 c2)) (And.intro (owns_keepO hown3 hk9 (fun q9 hq9 hm9 => owns_ne_blk (by decide) hown3 bz (by simp at hm9; rw [hq9, hm9]))) kz9)); obtain ⟨y0, y1, y2⟩ := (HF9.out _ (HK5.out.trans kz9)).1; have jby := HJB.out.keep kz9 (by simp); have y3 := (jby.cell 0).trans (show _ = some (Value.int .i64 KJ) from rfl); have y4 := (jby.cell 1).trans (show _ = some (Value.slice AJ qj cj) from rfl); clear jby hk9 kz9 g2 bz; obtain ⟨f0, f1, f2⟩ := (HF9.out v4 (HK5.out.trans kz)).1; have jbb := HJB.out.keep kz (by simp); have jb0 := (jbb.cell 0).trans (show _ = some (Value.int .i64 KJ) from rfl); have jb1 := (jbb.cell 1).trans (show _ = some (Value.slice AJ qj cj) from rfl); clear jbb hgrow3 kg3 hown3 kz k2 b2)
      | (have _ := tagB; (with_reducible refine at_world v2 ?_); have k2 : Keep [] v2 v2 := Keep.refl [] v2; have b2 := HBQ.out.keep k2 (by simp); refine step_append_src rfl (.tmp 72) (.tmp 74) 22 rfl v5.heap.size 35 ii (.agg #[.int .i64 0, .slice none 0 0]) 2 32 Try.underlying22 hii hi0 hi1 hi2 rfl (by omega) (.slice An n0 cn) n0 NC (by first | rfl | simp [Act.eval, Act.put]) (owns_kept HKQ.out.1 k2) (some ⟨v5.heap.size, 0, none⟩) 1 1 [.int .i64 KJ, .slice AJ qj cj] (by first | rfl | simp [Act.eval, Act.put]) rfl (fun e => by cases e) (fun ad e => by cases e; exact src2 b2) hone2 (by unfold maxLen; omega) (by omega) (Nat.le_trans HKQ.out.2.size k2.size) ?_; intro v3 v4 hown3 hgrow3 _; obtain ⟨Am, cm, rfl⟩ := owns_sl hown3; have kg3 := (Keep.grown (own := (Value.slice An n0 cn).ownBlock.toList) hgrow3 (fun k _ e => by simp [e])); have kz : Keep [] v5 v4 := (HKQ.out.2.trans k2).later (own' := (Value.slice An n0 cn).ownBlock.toList) kg3 (fun q hq => Or.inl (HKQ.out.1.lt q (by simpa using hq)).1); have HFIN := Lib.hid (And.intro (Blk.new v4 25 #[.slice Am (n0 + 1) cm, .slice A1 n1 c1, .slice A2 n2 c2]) (And.intro (owns_kept hown3 (Keep.alloc (own := []) v4 (.cells #[.slice Am (n0 + 1) cm, .slice A1 n1 c1, .slice A2 n2 c2] 25))) (kz.trans (Keep.alloc (own := []) v4 (.cells #[.slice Am (n0 + 1) cm, .slice A1 n1 c1, .slice A2 n2 c2] 25))))); obtain ⟨f0, f1, f2⟩ := (HF9.out v4 (HK5.out.trans kz)).1; have jbb := HJB.out.keep kz (by simp); have jb0 := (jbb.cell 0).trans (show _ = some (Value.int .i64 KJ) from rfl); have jb1 := (jbb.cell 1).trans (show _ = some (Value.slice AJ qj cj) from rfl); clear jbb hgrow3 kg3 hown3 kz k2 b2)
      | (have _ := tagB; (with_reducible refine at_world (v2.alloc (.cells #[.slice none 0 0, .slice none 0 0, .slice none 0 0] 25)) ?_); have k2 : Keep [] v2 (v2.alloc (.cells #[.slice none 0 0, .slice none 0 0, .slice none 0 0] 25)) := (Keep.alloc (own := []) _ _); have g2 : Blk (v2.alloc (.cells #[.slice none 0 0, .slice none 0 0, .slice none 0 0] 25)) v2.heap.size 25 #[.slice none 0 0, .slice none 0 0, .slice none 0 0] := Blk.new v2 25 #[.slice none 0 0, .slice none 0 0, .slice none 0 0]; have b2 := HBQ.out.keep k2 (by simp); refine step_append_src rfl (.tmp 72) (.tmp 74) 22 rfl v5.heap.size 35 ii (.agg #[.int .i64 0, .slice none 0 0]) 2 32 Try.underlying22 hii hi0 hi1 hi2 rfl (by omega) (.slice An n0 cn) n0 NC (by first | rfl | simp [Act.eval, Act.put]) (owns_kept HKQ.out.1 k2) (some ⟨v5.heap.size, 0, none⟩) 1 1 [.int .i64 KJ, .slice AJ qj cj] (by first | rfl | simp [Act.eval, Act.put]) rfl (fun e => by cases e) (fun ad e => by cases e; exact src2 b2) hone2 (by unfold maxLen; omega) (by omega) (Nat.le_trans HKQ.out.2.size k2.size) ?_; intro v3 v4 hown3 hgrow3 _; obtain ⟨Am, cm, rfl⟩ := owns_sl hown3; have kg3 := (Keep.grown (own := (Value.slice An n0 cn).ownBlock.toList) hgrow3 (fun k _ e => by simp [e])); have kz : Keep [] v5 v4 := (HKQ.out.2.trans k2).later (own' := (Value.slice An n0 cn).ownBlock.toList) kg3 (fun q hq => Or.inl (HKQ.out.1.lt q (by simpa using hq)).1); have bz := g2.keep kg3 (fun hm => owns_ne_blk (by decide) (owns_kept HKQ.out.1 k2) g2 (by simpa using hm)); have z0 := (bz.cell 0).trans (show _ = some (Value.slice none 0 0) from rfl); have z1 := (bz.cell 1).trans (show _ = some (Value.slice none 0 0) from rfl); have z2 := (bz.cell 2).trans (show _ = some (Value.slice none 0 0) from rfl); have u0 := bz.frozen 0; have u1 := bz.frozen 1; have u2 := bz.frozen 2; have hk9 : Keep [v2.heap.size] v4 (((v4.setCell ⟨v2.heap.size, 0, none⟩ (.slice Am (n0 + 1) cm)).setCell ⟨v2.heap.size, 1, none⟩ (.slice A1 n1 c1)).setCell ⟨v2.heap.size, 2, none⟩ (.slice A2 n2 c2)) := ((Keep.setCell _ _ (by simp) _).trans (Keep.setCell _ _ (by simp) _)).trans (Keep.setCell _ _ (by simp) _); have kz9 : Keep [] v5 (((v4.setCell ⟨v2.heap.size, 0, none⟩ (.slice Am (n0 + 1) cm)).setCell ⟨v2.heap.size, 1, none⟩ (.slice A1 n1 c1)).setCell ⟨v2.heap.size, 2, none⟩ (.slice A2 n2 c2)) := kz.since hk9 (by have := HKQ.out.2.size; simp; try omega); have HFIN := Lib.hid (And.intro (Blk.set3 bz (.slice Am (n0 + 1) cm) (.slice A1 n1 c1) (.slice A2 n2 c2)) (And.intro (owns_keepO hown3 hk9 (fun q9 hq9 hm9 => owns_ne_blk (by decide) hown3 bz (by simp at hm9; rw [hq9, hm9]))) kz9)); obtain ⟨y0, y1, y2⟩ := (HF9.out _ (HK5.out.trans kz9)).1; have jby := HJB.out.keep kz9 (by simp); have y3 := (jby.cell 0).trans (show _ = some (Value.int .i64 KJ) from rfl); have y4 := (jby.cell 1).trans (show _ = some (Value.slice AJ qj cj) from rfl); clear jby hk9 kz9 g2 bz; obtain ⟨f0, f1, f2⟩ := (HF9.out v4 (HK5.out.trans kz)).1; have jbb := HJB.out.keep kz (by simp); have jb0 := (jbb.cell 0).trans (show _ = some (Value.int .i64 KJ) from rfl); have jb1 := (jbb.cell 1).trans (show _ = some (Value.slice AJ qj cj) from rfl); clear jbb hgrow3 kg3 hown3 kz k2 b2)
      | (have _ := tagBA; (with_reducible refine at_world v2 ?_); have k2 : Keep [] v2 v2 := Keep.refl [] v2; have b2 := HBQ.out.keep k2 (by simp); have g2 := HGQ.out.keep k2 (by simp); refine step_append_src rfl (.tmp 72) (.tmp 74) 22 rfl v5.heap.size 35 ii (.agg #[.int .i64 0, .slice none 0 0]) 2 32 Try.underlying22 hii hi0 hi1 hi2 rfl (by omega) (.slice An n0 cn) n0 NC (by first | rfl | simp [Act.eval, Act.put]) (owns_kept HKQ.out.1 k2) (some ⟨v5.heap.size, 0, none⟩) 1 1 [.int .i64 KJ, .slice AJ qj cj] (by first | rfl | simp [Act.eval, Act.put]) rfl (fun e => by cases e) (fun ad e => by cases e; exact src2 b2) hone2 (by unfold maxLen; omega) (by omega) (Nat.le_trans HKQ.out.2.size k2.size) ?_; intro v3 v4 hown3 hgrow3 _; obtain ⟨Am, cm, rfl⟩ := owns_sl hown3; have kg3 := (Keep.grown (own := (Value.slice An n0 cn).ownBlock.toList) hgrow3 (fun k _ e => by simp [e])); have kz : Keep [] v5 v4 := (HKQ.out.2.trans k2).later (own' := (Value.slice An n0 cn).ownBlock.toList) kg3 (fun q hq => Or.inl (HKQ.out.1.lt q (by simpa using hq)).1); have bz := g2.keep kg3 (fun hm => owns_ne_blk (by decide) (owns_kept HKQ.out.1 k2) g2 (by simpa using hm)); have z0 := (bz.cell 0).trans (show _ = some (Value.slice none 0 0) from rfl); have z1 := (bz.cell 1).trans (show _ = some (Value.slice none 0 0) from rfl); have z2 := (bz.cell 2).trans (show _ = some (Value.slice none 0 0) from rfl); have u0 := bz.frozen 0; have u1 := bz.frozen 1; have u2 := bz.frozen 2; have hk9 : Keep [v5.heap.size + 1] v4 (((v4.setCell ⟨v5.heap.size + 1, 0, none⟩ (.slice Am (n0 + 1) cm)).setCell ⟨v5.heap.size + 1, 1, none⟩ (.slice A1 n1 c1)).setCell ⟨v5.heap.size + 1, 2, none⟩ (.slice A2 n2 c2)) := ((Keep.setCell _ _ (by simp) _).trans (Keep.setCell _ _ (by simp) _)).trans (Keep.setCell _ _ (by simp) _); have kz9 : Keep [] v5 (((v4.setCell ⟨v5.heap.size + 1, 0, none⟩ (.slice Am (n0 + 1) cm)).setCell ⟨v5.heap.size + 1, 1, none⟩ (.slice A1 n1 c1)).setCell ⟨v5.heap.size + 1, 2, none⟩ (.slice A2 n2 c2)) := kz.since hk9 (by have := HKQ.out.2.size; simp; try omega); have HFIN := Lib.hid (And.intro (Blk.set3 bz (.slice Am (n0 + 1) cm) (.slice A1 n1 c1) (.slice A2 n2 c2)) (And.intro (owns_keepO hown3 hk9 (fun q9 hq9 hm9 => owns_ne_blk (by decide) hown3 bz (by simp at hm9; rw [hq9, hm9]))) kz9)); obtain ⟨y0, y1, y2⟩ := (HF9.out _ (HK5.out.trans kz9)).1; have jby := HJB.out.keep kz9 (by simp); have y3 := (jby.cell 0).trans (show _ = some (Value.int .i64 KJ) from rfl); have y4 := (jby.cell 1).trans (show _ = some (Value.slice AJ qj cj) from rfl); clear jby hk9 kz9 g2 bz; obtain ⟨f0, f1, f2⟩ := (HF9.out v4 (HK5.out.trans kz)).1; have jbb := HJB.out.keep kz (by simp); have jb0 := (jbb.cell 0).trans (show _ = some (Value.int .i64 KJ) from rfl); have jb1 := (jbb.cell 1).trans (show _ = some (Value.slice AJ qj cj) from rfl); clear jbb hgrow3 kg3 hown3 kz k2 b2)
      | (have _ := tagAB; (with_reducible refine at_world v2 ?_); have k2 : Keep [] v2 v2 := Keep.refl [] v2; have b2 := HBQ.out.keep k2 (by simp); have g2 := HGQ.out.keep k2 (by simp); refine step_append_src rfl (.tmp 72) (.tmp 74) 22 rfl v5.heap.size 35 ii (.agg #[.int .i64 0, .slice none 0 0]) 2 32 Try.underlying22 hii hi0 hi1 hi2 rfl (by omega) (.slice An n0 cn) n0 NC (by first | rfl | simp [Act.eval, Act.put]) (owns_kept HKQ.out.1 k2) (some ⟨v5.heap.size + 1, 0, none⟩) 1 1 [.int .i64 KJ, .slice AJ qj cj] (by first | rfl | simp [Act.eval, Act.put]) rfl (fun e => by cases e) (fun ad e => by cases e; exact src2 b2) hone2 (by unfold maxLen; omega) (by omega) (Nat.le_trans HKQ.out.2.size k2.size) ?_; intro v3 v4 hown3 hgrow3 _; obtain ⟨Am, cm, rfl⟩ := owns_sl hown3; have kg3 := (Keep.grown (own := (Value.slice An n0 cn).ownBlock.toList) hgrow3 (fun k _ e => by simp [e])); have kz : Keep [] v5 v4 := (HKQ.out.2.trans k2).later (own' := (Value.slice An n0 cn).ownBlock.toList) kg3 (fun q hq => Or.inl (HKQ.out.1.lt q (by simpa using hq)).1); have bz := g2.keep kg3 (fun hm => owns_ne_blk (by decide) (owns_kept HKQ.out.1 k2) g2 (by simpa using hm)); have z0 := (bz.cell 0).trans (show _ = some (Value.slice none 0 0) from rfl); have z1 := (bz.cell 1).trans (show _ = some (Value.slice none 0 0) from rfl); have z2 := (bz.cell 2).trans (show _ = some (Value.slice none 0 0) from rfl); have u0 := bz.frozen 0; have u1 := bz.frozen 1; have u2 := bz.frozen 2; have hk9 : Keep [v5.heap.size] v4 (((v4.setCell ⟨v5.heap.size, 0, none⟩ (.slice Am (n0 + 1) cm)).setCell ⟨v5.heap.size, 1, none⟩ (.slice A1 n1 c1)).setCell ⟨v5.heap.size, 2, none⟩ (.slice A2 n2 c2)) := ((Keep.setCell _ _ (by simp) _).trans (Keep.setCell _ _ (by simp) _)).trans (Keep.setCell _ _ (by simp) _); have kz9 : Keep [] v5 (((v4.setCell ⟨v5.heap.size, 0, none⟩ (.slice Am (n0 + 1) cm)).setCell ⟨v5.heap.size, 1, none⟩ (.slice A1 n1 c1)).setCell ⟨v5.heap.size, 2, none⟩ (.slice A2 n2 c2)) := kz.since hk9 (by have := HKQ.out.2.size; simp; try omega); have HFIN := Lib.hid (And.intro (Blk.set3 bz (.slice Am (n0 + 1) cm) (.slice A1 n1 c1) (.slice A2 n2 c2)) (And.intro (owns_keepO hown3 hk9 (fun q9 hq9 hm9 => owns_ne_blk (by decide) hown3 bz (by simp at hm9; rw [hq9, hm9]))) kz9)); obtain ⟨y0, y1, y2⟩ := (HF9.out _ (HK5.out.trans kz9)).1; have jby := HJB.out.keep kz9 (by simp); have y3 := (jby.cell 0).trans (show _ = some (Value.int .i64 KJ) from rfl); have y4 := (jby.cell 1).trans (show _ = some (Value.slice AJ qj cj) from rfl); clear jby hk9 kz9 g2 bz; obtain ⟨f0, f1, f2⟩ := (HF9.out v4 (HK5.out.trans kz)).1; have jbb := HJB.out.keep kz (by simp); have jb0 := (jbb.cell 0).trans (show _ = some (Value.int .i64 KJ) from rfl); have jb1 := (jbb.cell 1).trans (show _ = some (Value.slice AJ qj cj) from rfl); clear jbb hgrow3 kg3 hown3 kz k2 b2))
      all_goals
        go_wp2_with fail
        go_meet
        exact ⟨_, Am, cm, rfl, HFIN.out.1, HFIN.out.2.1, HFIN.out.2.2⟩
    case rest =>
      obtain ⟨bj, An, cn, rfl, hbJ, hownJ, hkJ⟩ := hcut
      generalize wc = wk at *
      rw [← HNC.out] at hownJ
      have hk0 := HKA.out.trans (H8.out.1.trans (HK5.out.trans hkJ))
      obtain ⟨AN, cN, eN, hN⟩ := snoc_nodl (L := g.nodes) HG.out.2.2.1 HG.out.2.2.2 hownJ (fun i hi => by
        obtain ⟨A', c', e1, e2⟩ := HVV.out i hi
        exact ⟨A', c', e1, e2.keep hkJ⟩) (HG.out.2.1.keep hk0)
      simp only [Value.slice.injEq, true_and] at eN
      obtain ⟨rfl, rfl⟩ := eN
      obtain ⟨jg, hjg⟩ : ∃ jg : Gr, (⟨g.nodes ++ [⟨KJ, fj⟩], g.roots, g.weaks⟩ : Gr) = jg := ⟨_, rfl⟩
      have hjn : jg.nodes.length = n0 + 1 := by rw [← hjg]; show (g.nodes ++ [_]).length = _; rw [List.length_append, HG.out.2.2.1]; rfl
      have hjr : jg.roots.length = n1 := by rw [← hjg]; exact HNL.out.1
      have hjw : jg.weaks.length = n2 := by rw [← hjg]; exact HNL.out.2
      have hgJ : GIn wk An A1 A2 cn c1 c2 jg := by rw [← hjg]; exact ⟨hN, (HG.out.1.keep hk0).roots, (HG.out.1.keep hk0).weaks⟩
      have hsj : Slim jg := by rw [← hjg]; exact snoc_slim HSL.out (by have := HG.out.2.2.2; omega)
      have haj : MayG jg → AlikeG g jg := by rw [← hjg]; exact snoc_alike [⟨KJ, fj⟩] HM.out
      have hmj := mayg_any wk An A1 A2 cn c1 c2 jg hgJ
      have hal := fun v6 (k6 : Keep [] wk v6) => AL.out v6 An A1 A2 cn c1 c2 jg (H8.out.1.trans ((HK5.out.trans hkJ).trans k6)) (hgJ.keep k6) HSL.out hsj
      rw [hjn, hjr, hjw] at hmj hal
      have z0 := (hbJ.cell 0).trans (show _ = some (Value.slice An (n0 + 1) cn) from rfl)
      have z1 := (hbJ.cell 1).trans (show _ = some (Value.slice A1 n1 c1) from rfl)
      have z2 := (hbJ.cell 2).trans (show _ = some (Value.slice A2 n2 c2) from rfl)
      have HKJ := Lib.hid (And.intro (HK5.out.trans hkJ) hbJ)
      have HAJ := Lib.hid haj
      have HAL2 := Lib.hid hal
      clear hownJ hk0 hN hjn hjr hjw hgJ hsj haj hbJ hkJ hal
      by_cases hMj : MayG jg
      case neg =>
        rw [decide_eq_false hMj] at hmj
        clear hMj hjg
        go_wp2_with fail
        (with_reducible refine hmj.mono ?_)
        rintro e v6 ⟨rfl, k6⟩
        have HKE := Lib.hid (HKJ.out.1.trans k6)
        clear k6 hmj z0 z1 z2
        go_wp2_with fail
        go_meet
        exact HKE.out
      rw [decide_eq_true hMj] at hmj
      have hxx := decide_eq_true (HAJ.out hMj)
      clear hMj hjg
      go_wp2_with fail
      (with_reducible refine hmj.mono ?_)
      rintro e v6 ⟨rfl, k6⟩
      have hb6 := HKJ.out.2.keep k6 (by simp)
      have z0 := (hb6.cell 0).trans (show _ = some (Value.slice An (n0 + 1) cn) from rfl)
      have z1 := (hb6.cell 1).trans (show _ = some (Value.slice A1 n1 c1) from rfl)
      have z2 := (hb6.cell 2).trans (show _ = some (Value.slice A2 n2 c2) from rfl)
      obtain ⟨f0, f1, f2⟩ := (HF9.out v6 (HKJ.out.1.trans k6)).1
      have hal := HAL2.out v6 k6
      rw [hxx] at hal
      have HKE := Lib.hid (HKJ.out.1.trans k6)
      clear k6 hmj hb6 hxx
      go_wp2_with fail
      (with_reducible refine hal.mono ?_)
      rintro e v7 ⟨rfl, k7⟩
      have HKF := Lib.hid (HKE.out.trans k7)
      clear k7 hal z0 z1 z2 f0 f1 f2
      go_wp2_with fail
      go_meet
      exact HKF.out
  case rest =>
  generalize wc = wj at *
  have HKC := Lib.hid hcut
  obtain ⟨⟨f0, f1, f2⟩, ⟨e0, e1, e2⟩, g0, g1, g2⟩ := HF9.out wj HKC.out
  clear hcut jb1
  by_cases hd00 : d0 = 0
  · have hd00' : ((d0 : Int) == 0) = true := by simp [hd00]
    have haw := AW.out wj
    have HK := Lib.hid (HKA.out.trans (H8.out.1.trans HKC.out))
    clear hd00
    go_wp2_with fail
    (with_reducible refine haw.mono ?_)
    rintro e v1 ⟨rfl, k1⟩
    have HK1 := Lib.hid (HK.out.trans k1)
    clear k1 haw f0 f1 f2 e0 e1 e2 g0 g1 g2
    go_wp2
    go_ret
    exact ⟨rfl, HK1.out⟩
  have hd00' : ((d0 : Int) == 0) = false := by simp [hd00]
  have hd00n : ¬ (d0 : Int) = 0 := by omega
  have hd60 : d0 ≤ 60 := by
    have h1 : td.nodes.length = (orderG g g.roots).length := by rw [← HTD.out]; show (List.map _ _).length = _; rw [List.length_map]
    have h2 := (orderG_fine g g.roots).len
    rw [show g.n = n0 from HG.out.2.2.1] at h2
    have h3 := HDL.out.1
    omega
  obtain ⟨ua, hua⟩ : ∃ u : Nat, IntKind.u64.wrap ai = u := ⟨(IntKind.u64.wrap ai).toNat, by rw [IntKind.wrap_u64]; omega⟩
  have hua2 : ua < 18446744073709551616 := by rw [IntKind.wrap_u64] at hua; omega
  have hwd : IntKind.u64.wrap (d0 : Int) = (d0 : Int) := by rw [IntKind.wrap_u64]; omega
  obtain ⟨P, hP⟩ : ∃ P, ua % d0 = P := ⟨_, rfl⟩
  have hPn : P < d0 := by rw [← hP]; exact Nat.mod_lt _ (by omega)
  have hP1 : (ua : Int) % d0 = (P : Nat) := by rw [← hP]; first | rfl | simp | exact (Int.natCast_emod ua d0).symm
  have hP2 : (ua : Int).tmod d0 = (P : Nat) := by rw [Int.tmod_eq_emod_of_nonneg (by omega)]; exact hP1
  have hP3 : IntKind.i64.wrap (P : Int) = (P : Int) := by rw [IntKind.wrap_i64]; omega
  have hP4 : IntKind.u64.wrap (P : Int) = (P : Int) := by rw [IntKind.wrap_u64]; omega
  clear hP hd00
  go_upto_region 15 with fail
  clear hua hwd hP1 hP2 hP3 hP4 hd00' hd00n
  obtain ⟨vs, hv0, hv1, hv2⟩ := nodl_vs H8.out.2.1.nodes
  have hynm := H8.out.2.1.nodes.nc
  have hyncap := H8.out.2.1.nodes.cap
  rw [HDL.out.1] at hv0 hv1 hv2 hynm
  have HVV := Lib.hid hv2
  have HVS := Lib.hid (fun W (hk : Keep [] wj W) => (show ∀ ad, G0 = some ad → ∀ j u, (nodC d0 (fun i => (td.nodes.getD i nod0).K) vs)[j]? = some u → W.cell? (ad.add j) = some u from fun ad had j u hu => by
    obtain ⟨b, o, e, hb⟩ := hv0 (by omega)
    have h1 := hv1 ad had j u hu
    rw [had] at e
    obtain rfl : ad = ⟨b, o, none⟩ := by simpa using e
    rw [addr_add0] at h1 ⊢
    exact ((HKC.out.trans hk).cell (p := ⟨b, o + j, none⟩) hb (by simp)).trans h1))
  have hGn : G0 = none → d0 = 0 := fun e => by
    obtain ⟨b, o, e2, _⟩ := hv0 (by omega)
    rw [e] at e2
    cases e2
  have hone : ∀ u ∈ nodC d0 (fun i => (td.nodes.getD i nod0).K) vs, u.oneCell' = true := fun u hu => by
    obtain ⟨j, hj, rfl⟩ := List.getElem_of_mem hu
    rw [nodC_len] at hj
    obtain ⟨q1, q2⟩ := nodC_get (fun i => (td.nodes.getD i nod0).K) vs (i := j / 2) (show j / 2 < d0 by omega)
    obtain ⟨A', c', e, _⟩ := hv2 (j / 2) (by omega)
    rcases (show j = j / 2 * 2 ∨ j = j / 2 * 2 + 1 by omega) with e2 | e2
    · have : (nodC d0 (fun i => (td.nodes.getD i nod0).K) vs)[j]? = some (.int .i64 (td.nodes.getD (j / 2) nod0).K) := by rw [e2]; simpa using q1
      rw [List.getElem?_eq_getElem (by rw [nodC_len]; omega)] at this
      rw [Option.some.inj this]
      rfl
    · have : (nodC d0 (fun i => (td.nodes.getD i nod0).K) vs)[j]? = some (vs (j / 2)) := by
        have h9 : (j / 2 * 2 + 1) / 2 = j / 2 := by omega
        rw [e2, h9]; exact q2
      rw [List.getElem?_eq_getElem (by rw [nodC_len]; omega)] at this
      rw [Option.some.inj this, e]
      rfl
  obtain ⟨NC, hNC⟩ : ∃ NC, nodC d0 (fun i => (td.nodes.getD i nod0).K) vs = NC := ⟨_, rfl⟩
  have hNCl : NC.length = d0 * 2 := by rw [← hNC, nodC_len]
  rw [hNC] at HVS hone
  have HNC := Lib.hid hNC
  clear hv0 hv1 hv2 hNC
  go_cut [14] (fun s14 wx => ∃ b An cn, s14 = .pointer (some ⟨b, 0, none⟩) ∧ Blk wx b 25 #[.slice An d0 cn, .slice G1 d1 y1, .slice G2 d2 y2] ∧ wx.ownsRow wj.heap.size 35 2 (.slice An d0 cn) d0 NC ∧ Keep [] wj wx)
  case first =>
    obtain ⟨ii, hii, hi0, hi1, hi2⟩ := info_of nodparts
    have kA : Keep [] wj wj.drew := Keep.drew _
    have kB : Keep [] wj (wj.alloc (.cells #[.slice none 0 0, .slice none 0 0, .slice none 0 0] 25)).drew := (Keep.alloc _ _).trans (Keep.drew _)
    have bB : Blk (wj.alloc (.cells #[.slice none 0 0, .slice none 0 0, .slice none 0 0] 25)).drew wj.heap.size 25 #[.slice none 0 0, .slice none 0 0, .slice none 0 0] := (Blk.new wj _ _).keep (Keep.drew (own := []) _) (by simp)
    have HB := Lib.hid (And.intro kA (And.intro kB bB))
    clear kA kB bB f0 f1 f2 e0 e1 e2 g0 g1 g2
    have hpc0 : p12 < wj.heap.size := by have := H8.out.2.2.lt; have := HKC.out.size; omega
    have hpc1 : ¬ p12 = wj.heap.size := by omega
    have hpc2 : ¬ wj.heap.size = p12 := by omega
    obtain ⟨_, _, g0, g1, g2⟩ := HF9.out wj.drew (HKC.out.trans HB.out.1)
    obtain ⟨_, _, j0, j1, j2⟩ := HF9.out _ (HKC.out.trans HB.out.2.1)
    go_wp2_with fail
    go_region_held3 (fun w' => w'.cell? ⟨p12, 0, none⟩ = some (.slice G0 d0 y0) ∧ w'.cell? ⟨p12, 1, none⟩ = some (.slice G1 d1 y1) ∧ w'.cell? ⟨p12, 2, none⟩ = some (.slice G2 d2 y2)) (first | exact ⟨g0, g1, g2⟩ | exact ⟨j0, j1, j2⟩ | go_keep) (first
      | (refine step_append_src rfl (.const (.slice none 0 0)) (.tmp 103) 22 rfl wj.heap.size 35 ii (.agg #[.int .i64 0, .slice none 0 0]) 2 32 Try.underlying22 hii hi0 hi1 hi2 rfl (by omega) (.slice none 0 0) 0 [] rfl ⟨rfl, Or.inl ⟨rfl, rfl⟩⟩ G0 d0 y0 NC (by first | rfl | simp [Act.eval, Act.put]) hNCl hGn (HVS.out _ HB.out.1) hone (by unfold maxLen; omega) (by omega) HB.out.1.size ?_; intro v1 v2 hown hgrow _; have hown2 : v2.ownsRow wj.heap.size 35 2 v1 d0 NC := (by simpa using hown); obtain ⟨An, cn, rfl⟩ := owns_sl hown2; have kq : Keep [] wj v2 := HB.out.1.trans (Keep.grown hgrow (fun k _ e => by simp [Value.ownBlock] at e)); obtain ⟨_, _, g0, g1, g2⟩ := HF9.out v2 (HKC.out.trans kq); obtain ⟨_, _, s0, s1, s2⟩ := HF9.out (v2.alloc (.cells #[.slice none 0 0, .slice none 0 0, .slice none 0 0] 25)) ((HKC.out.trans kq).trans (Keep.alloc _ _)); have HEA := Lib.hid (And.intro hown2 kq))
      | (refine step_append_src rfl (.const (.slice none 0 0)) (.tmp 103) 22 rfl wj.heap.size 35 ii (.agg #[.int .i64 0, .slice none 0 0]) 2 32 Try.underlying22 hii hi0 hi1 hi2 rfl (by omega) (.slice none 0 0) 0 [] rfl ⟨rfl, Or.inl ⟨rfl, rfl⟩⟩ G0 d0 y0 NC (by first | rfl | simp [Act.eval, Act.put]) hNCl hGn (HVS.out _ HB.out.2.1) hone (by unfold maxLen; omega) (by omega) HB.out.2.1.size ?_; intro v1 v2 hown hgrow _; have hown2 : v2.ownsRow wj.heap.size 35 2 v1 d0 NC := (by simpa using hown); obtain ⟨An, cn, rfl⟩ := owns_sl hown2; have kg : Keep [] _ v2 := (Keep.grown hgrow (fun k _ e => by simp [Value.ownBlock] at e)); have kq : Keep [] wj v2 := HB.out.2.1.trans kg; obtain ⟨_, _, g0, g1, g2⟩ := HF9.out v2 (HKC.out.trans kq); have bz := HB.out.2.2.keep kg (by simp); have z0 := (bz.cell 0).trans (show _ = some (Value.slice none 0 0) from rfl); have z1 := (bz.cell 1).trans (show _ = some (Value.slice none 0 0) from rfl); have z2 := (bz.cell 2).trans (show _ = some (Value.slice none 0 0) from rfl); have f0 := bz.frozen 0; have f1 := bz.frozen 1; have f2 := bz.frozen 2; have HEB := Lib.hid (And.intro hown2 (And.intro kq bz))))
    all_goals first
      | (go_wp2_with fail
         go_meet
         exact ⟨v2.heap.size, An, cn, rfl, Blk.new _ _ _, owns_kept HEA.out.1 (Keep.alloc _ _), HEA.out.2.trans (Keep.alloc _ _)⟩)
      | (have hk9 : Keep [wj.heap.size] v2 (((v2.setCell ⟨wj.heap.size, 0, none⟩ (.slice An d0 cn)).setCell ⟨wj.heap.size, 1, none⟩ (.slice G1 d1 y1)).setCell ⟨wj.heap.size, 2, none⟩ (.slice G2 d2 y2)) := ((Keep.setCell _ _ (by simp) _).trans (Keep.setCell _ _ (by simp) _)).trans (Keep.setCell _ _ (by simp) _)
         go_wp2_with fail
         go_meet
         exact ⟨wj.heap.size, An, cn, rfl, Blk.set3 HEB.out.2.2 _ _ _, owns_keepO HEB.out.1 hk9 (fun q hq hm => owns_ne_blk (by decide) HEB.out.1 HEB.out.2.2 (by simp at hm; rw [hq, hm])), HEB.out.2.1.since hk9 (by simp)⟩)
  case rest =>
  obtain ⟨b, An, cn, rfl, hbU, hown, hKU⟩ := hcut
  generalize wc = we at *
  have hKE := HKC.out.trans hKU
  obtain ⟨gU, cU, e1, hB1, hgU⟩ := World.ownsRow.form hown (by omega)
  simp only [Value.slice.injEq, true_and] at e1
  obtain ⟨rfl, rfl⟩ := e1
  obtain ⟨bG, oG, rfl, hbG, hcG⟩ := H8.out.2.1.nodes.cells (by rw [HDL.out.1]; omega)
  obtain ⟨AX, cX, d8, d9, hvX8⟩ := hcG P (by rw [HDL.out.1]; exact hPn)
  have hat : td.nodes.getD P nod0 = td.at P := rfl
  rw [hat] at d8 d9 hvX8
  have d0' := (hKE.cell (p := ⟨bG, _, none⟩) hbG (by simp)).trans d8
  have d1' := (hKE.cell (p := ⟨bG, _, none⟩) hbG (by simp)).trans d9
  have hvX := hvX8.keep hKE
  clear d8 d9 hvX8 hcG
  obtain ⟨fs, hfs⟩ : ∃ fs, (td.at P).fs = fs := ⟨_, rfl⟩
  obtain ⟨K0, hK0⟩ : ∃ K0, (td.at P).K = K0 := ⟨_, rfl⟩
  have hml : fs.length ≤ 65536 := by rw [← hfs]; exact HPD.out.2.1.2.2 P (by show P < td.nodes.length; rw [HDL.out.1]; exact hPn)
  rw [hK0] at d0'
  rw [hfs] at d1' hvX
  obtain ⟨hx0, hAXn, hx2⟩ := vals_news hvX
  have hrl : (rowV fs).length = fs.length * 5 := rowV_len fs
  have hxc := hvX.nc
  have hxm := hvX.cap
  obtain ⟨m, hm⟩ : ∃ m, fs.length = m := ⟨_, rfl⟩
  rw [hm] at d1' hml hAXn hx0 hrl hxc
  have HFS := Lib.hid (And.intro hfs (And.intro hK0 hm))
  have HVF := Lib.hid (fun W (hk : Keep [] we W) => (show ∀ ad, AX = some ad → ∀ j u, (rowV fs)[j]? = some u → W.cell? (ad.add j) = some u from fun ad had j u hu => by
    have hj : j < m * 5 := by
      have := (List.getElem?_eq_some_iff.1 hu).1
      rwa [hrl] at this
    obtain ⟨b', o', e, hb'⟩ := hx0 (by omega)
    have h1 := hx2 ad had j u hu
    rw [had] at e
    obtain rfl : ad = ⟨b', o', none⟩ := by simpa using e
    rw [addr_add0] at h1 ⊢
    exact (hk.cell (p := ⟨b', o' + j, none⟩) hb' (by simp)).trans h1))
  have hone5 : ∀ u ∈ cellsV ⟨1, xi, 0, 0, 0⟩, u.oneCell' = true := fun u hu => by
    simp [cellsV] at hu
    rcases hu with rfl | rfl | rfl | rfl <;> rfl
  obtain ⟨cur, hcur, hcs, hct⟩ : ∃ cur, Blk we gU 35 cur ∧ cur.size = cn * 2 ∧ cur.toList.take (d0 * 2) = NC := by
    rcases hown.2 with ⟨e, _⟩ | ⟨g', cap', cur', e, _, hh, _, _, hs', ht'⟩
    · cases e
    · injection e with e1 _ e3
      obtain rfl : gU = g' := by simpa using e1
      subst e3
      exact ⟨cur', hh, hs', ht'⟩
  have hcn : d0 ≤ cn := by
    rcases hown.2 with ⟨e, _⟩ | ⟨g', cap', cur', e, _, _, hn', _⟩
    · cases e
    · injection e with _ _ e3
      subst e3
      exact hn'
  have g0' := (HF9.out we hKE).2.2.1
  have hbe : b ≠ gU := fun e => by
    subst e
    have h1 : we.heap[b]? = some (.cells #[.slice (some ⟨b, 0, none⟩) d0 cn, .slice G1 d1 y1, .slice G2 d2 y2] 25 (0, 0)) := hbU
    have h2 : we.heap[b]? = some (.cells cur 35 (0, 0)) := hcur
    rw [h1] at h2
    injection h2 with e
    injection e with _ e
    exact absurd e (by decide)
  have hbs := hbU.lt
  have hpw : p12 < w8.heap.size := H8.out.2.2.lt
  have hwj : w8.heap.size ≤ wj.heap.size := HKC.out.size
  have hq1 : ¬ bG = gU := by omega
  have hq2 : ¬ gU = bG := by omega
  have hq3 : ¬ p12 = gU := by omega
  have hq4 : ¬ gU = p12 := by omega
  have hq5 : ¬ gU = b := fun e => hbe e.symm
  have hcz : P * 2 + 1 < cur.size := by rw [hcs]; omega
  obtain ⟨y00, hy00⟩ : ∃ v, cur[P * 2]? = some v := ⟨cur[P * 2], Array.getElem?_eq_getElem (by omega)⟩
  obtain ⟨y01, hy01⟩ : ∃ v, cur[P * 2 + 1]? = some v := ⟨cur[P * 2 + 1], Array.getElem?_eq_getElem (by omega)⟩
  have HS16 := Lib.hid (fun W (hk : Keep [] we W) => And.intro (((hbU.keep hk (by simp)).cell 0).trans (show _ = some (Value.slice (some ⟨gU, 0, none⟩) d0 cn) from rfl)) (And.intro (HF9.out W (hKE.trans hk)).2.2.1 (And.intro ((hk.cell (p := ⟨bG, oG + P * 2, none⟩) (Nat.lt_of_lt_of_le hbG hKE.size) (by simp)).trans d0') (And.intro ((hk.cell (p := ⟨bG, oG + P * 2 + 1, none⟩) (Nat.lt_of_lt_of_le hbG hKE.size) (by simp)).trans d1') (And.intro (((hcur.keep hk (by simp)).cell (P * 2)).trans hy00) (And.intro (((hcur.keep hk (by simp)).cell (P * 2 + 1)).trans hy01) (And.intro ((hcur.keep hk (by simp)).frozen (P * 2)) ((hcur.keep hk (by simp)).frozen (P * 2 + 1)))))))))
  have HOWN := Lib.hid (And.intro hown (And.intro hbU (And.intro hKE (And.intro hKU hcur))))
  have hPI : (P : Int) < d0 := by omega
  have hGsz : wj.heap.size ≤ gU := hB1
  clear hown hbU hKU hcur hct hy00 hy01 d0' d1' hvX hx0 hx2 g0' hKE f0 f1 f2 e0 e1 e2 g0 g1 g2 hbe hbs
  obtain ⟨ii, hii, hi0, hi1, hi2⟩ := info_of valpart5
  have kA : Keep [] we we.drew := Keep.drew _
  have kB : Keep [] we (we.alloc (.cells #[.int .i64 1, .int .i64 xi, .int .u64 0, .int .u64 0, .int .i64 0] 37)).drew := (Keep.alloc _ _).trans (Keep.drew _)
  have bB : Blk (we.alloc (.cells #[.int .i64 1, .int .i64 xi, .int .u64 0, .int .u64 0, .int .i64 0] 37)).drew we.heap.size 37 #[.int .i64 1, .int .i64 xi, .int .u64 0, .int .u64 0, .int .i64 0] := (Blk.new we _ _).keep (Keep.drew (own := []) _) (by simp)
  have HB := Lib.hid (And.intro kA (And.intro kB bB))
  have HN5 := Lib.hid (fun W bb (h9 : Blk W bb 37 #[.int .i64 1, .int .i64 xi, .int .u64 0, .int .u64 0, .int .i64 0]) => (show ∀ j u, (cellsV ⟨1, xi, 0, 0, 0⟩)[j]? = some u → W.cell? ((⟨bb, 0, none⟩ : Addr).add j) = some u from fun j u hu => by
    rw [addr_add0, Nat.zero_add, h9.cell, ← hu]
    simp [cellsV]))
  clear kA kB bB
  obtain ⟨s0, s1, s2, s3, _⟩ := HS16.out we.drew HB.out.1
  obtain ⟨r0, r1, r2, r3, _⟩ := HS16.out _ HB.out.2.1
  go_upto_region 16 with fail
  go_cut [110] (fun s110 wx => GIn wx (some ⟨gU, 0, none⟩) G1 G2 cn y1 y2 (moreG td P xi) ∧ Blk wx b 25 #[.slice (some ⟨gU, 0, none⟩) d0 cn, .slice G1 d1 y1, .slice G2 d2 y2] ∧ Keep [] w8 wx)
  case first =>
    go_wp2_with fail
    go_region_held3 (fun w' => w'.cell? ⟨b, 0, none⟩ = some (.slice (some ⟨gU, 0, none⟩) d0 cn) ∧ w'.cell? ⟨p12, 0, none⟩ = some (.slice (some ⟨bG, oG, none⟩) d0 y0) ∧ w'.cell? ⟨bG, oG + P * 2, none⟩ = some (.int .i64 K0) ∧ w'.cell? ⟨bG, oG + P * 2 + 1, none⟩ = some (.slice AX m cX)) (first | exact ⟨s0, s1, s2, s3⟩ | exact ⟨r0, r1, r2, r3⟩ | go_keep) (first
      | (refine step_append_src rfl (.const (.slice none 0 0)) (.tmp 124) 33 rfl we.heap.size 37 ii (.agg #[.int .i64 0, .int .i64 0, .int .u64 0, .int .u64 0, .int .i64 0]) 5 40 Try.underlying33 hii hi0 hi1 hi2 rfl (by omega) (.slice none 0 0) 0 [] rfl ⟨rfl, Or.inl ⟨rfl, rfl⟩⟩ AX m cX (rowV fs) (by first | rfl | simp [Act.eval, Act.put]) hrl hAXn (HVF.out _ HB.out.1) rowV_one (by unfold maxLen; omega) (by omega) HB.out.1.size ?_; intro v1 v2 hown1 hgrow1 _; have hown2 : v2.ownsRow we.heap.size 37 5 v1 m (rowV fs) := (by simpa using hown1); obtain ⟨AF, cF, rfl⟩ := owns_sl hown2; have kg : Keep [] _ v2 := (Keep.grown hgrow1 (fun k _ e => by simp [Value.ownBlock] at e)); have kq : Keep [] we v2 := HB.out.1.trans kg; obtain ⟨s0, s1, s2, s3, _⟩ := HS16.out v2 kq; have kal := Keep.alloc (own := []) v2 (.cells #[.int .i64 1, .int .i64 xi, .int .u64 0, .int .u64 0, .int .i64 0] 37))
      | (refine step_append_src rfl (.const (.slice none 0 0)) (.tmp 124) 33 rfl we.heap.size 37 ii (.agg #[.int .i64 0, .int .i64 0, .int .u64 0, .int .u64 0, .int .i64 0]) 5 40 Try.underlying33 hii hi0 hi1 hi2 rfl (by omega) (.slice none 0 0) 0 [] rfl ⟨rfl, Or.inl ⟨rfl, rfl⟩⟩ AX m cX (rowV fs) (by first | rfl | simp [Act.eval, Act.put]) hrl hAXn (HVF.out _ HB.out.2.1) rowV_one (by unfold maxLen; omega) (by omega) HB.out.2.1.size ?_; intro v1 v2 hown1 hgrow1 _; have hown2 : v2.ownsRow we.heap.size 37 5 v1 m (rowV fs) := (by simpa using hown1); obtain ⟨AF, cF, rfl⟩ := owns_sl hown2; have kg : Keep [] _ v2 := (Keep.grown hgrow1 (fun k _ e => by simp [Value.ownBlock] at e)); have kq : Keep [] we v2 := HB.out.2.1.trans kg; obtain ⟨s0, s1, s2, s3, _⟩ := HS16.out v2 kq; have bz := HB.out.2.2.keep kg (by simp))
      | (refine step_append_src rfl (.tmp 125) (.tmp 128) 33 rfl we.heap.size 37 ii (.agg #[.int .i64 0, .int .i64 0, .int .u64 0, .int .u64 0, .int .i64 0]) 5 40 Try.underlying33 hii hi0 hi1 hi2 rfl (by omega) (.slice AF m cF) m (rowV fs) (by first | rfl | simp [Act.eval, Act.put]) (owns_kept hown2 kal) (some ⟨v2.heap.size, 0, none⟩) 1 1 (cellsV ⟨1, xi, 0, 0, 0⟩) (by first | rfl | simp [Act.eval, Act.put]) rfl (fun e => by cases e) (fun ad e => by cases e; exact HN5.out _ _ (Blk.new _ _ _)) hone5 (by unfold maxLen; omega) (by omega) (Nat.le_trans kq.size (show Keep [] v2 _ from kal).size) ?_; intro v3 v4 hown3 hgrow3 _; have hown4 : v4.ownsRow we.heap.size 37 5 v3 (m + 1) (rowV (fs ++ [⟨1, xi, 0, 0, 0⟩])) := (by rw [rowV_snoc]; exact hown3); obtain ⟨AG, cG, rfl⟩ := owns_sl hown4; have kz : Keep [] we v4 := (kq.trans kal).later (own' := (Value.slice AF m cF).ownBlock.toList) (Keep.grown hgrow3 (fun k _ e => by simp [e])) (fun q hq => Or.inl (hown2.lt q (by simpa using hq)).1); obtain ⟨s0, s1, s2, s3, n0', n1', n2', n3'⟩ := HS16.out v4 kz; have HEE := Lib.hid (And.intro hown4 kz))
      | (refine step_append_src rfl (.tmp 125) (.tmp 128) 33 rfl we.heap.size 37 ii (.agg #[.int .i64 0, .int .i64 0, .int .u64 0, .int .u64 0, .int .i64 0]) 5 40 Try.underlying33 hii hi0 hi1 hi2 rfl (by omega) (.slice AF m cF) m (rowV fs) (by first | rfl | simp [Act.eval, Act.put]) (owns_kept hown2 (Keep.refl [] v2)) (some ⟨we.heap.size, 0, none⟩) 1 1 (cellsV ⟨1, xi, 0, 0, 0⟩) (by first | rfl | simp [Act.eval, Act.put]) rfl (fun e => by cases e) (fun ad e => by cases e; exact HN5.out _ _ bz) hone5 (by unfold maxLen; omega) (by omega) (Nat.le_trans kq.size (show Keep [] v2 _ from (Keep.refl [] v2)).size) ?_; intro v3 v4 hown3 hgrow3 _; have hown4 : v4.ownsRow we.heap.size 37 5 v3 (m + 1) (rowV (fs ++ [⟨1, xi, 0, 0, 0⟩])) := (by rw [rowV_snoc]; exact hown3); obtain ⟨AG, cG, rfl⟩ := owns_sl hown4; have kz : Keep [] we v4 := (kq.trans (Keep.refl [] v2)).later (own' := (Value.slice AF m cF).ownBlock.toList) (Keep.grown hgrow3 (fun k _ e => by simp [e])) (fun q hq => Or.inl (hown2.lt q (by simpa using hq)).1); obtain ⟨s0, s1, s2, s3, n0', n1', n2', n3'⟩ := HS16.out v4 kz; have HEE := Lib.hid (And.intro hown4 kz)))
    all_goals
      have hk7 : Keep [gU] v4 ((v4.setCell ⟨gU, P * 2, none⟩ (.int .i64 K0)).setCell ⟨gU, P * 2 + 1, none⟩ (.slice AG (m + 1) cG)) := (Keep.setCell _ _ (by simp) _).trans (Keep.setCell _ _ (by simp) _)
      have kz' := HEE.out.2
      have own2 := owns_kept HOWN.out.1 kz'
      rw [← HNC.out] at own2
      have ow3 := owns_set2 (v' := .slice AG (m + 1) cG) own2 hPn
      have hKP : (td.nodes.getD P nod0).K = K0 := HFS.out.2.1
      rw [hKP] at ow3
      have hlen : (moreG td P xi).nodes.length = d0 := (moreG_n td P xi).trans HDL.out.1
      have hatE : ∀ i, i < d0 → (moreG td P xi).nodes.getD i nod0 = if i = P then ⟨(td.at P).K, (td.at P).fs ++ [⟨1, xi, 0, 0, 0⟩]⟩ else td.at i := fun i hi => moreG_at xi (by show i < td.nodes.length; rw [HDL.out.1]; exact hi)
      have hcon : nodC d0 (fun i => (td.nodes.getD i nod0).K) (fun i => if i = P then .slice AG (m + 1) cG else vs i) = nodC d0 (fun i => ((moreG td P xi).nodes.getD i nod0).K) (fun i => if i = P then .slice AG (m + 1) cG else vs i) := nodC_congr (fun i hi => ⟨by
        rw [hatE i hi]
        by_cases e : i = P
        · subst e; rw [if_pos rfl]; rfl
        · rw [if_neg e]; rfl, rfl⟩)
      rw [hcon] at ow3
      have ow5 := ownsRow_setCell_below (ownsRow_setCell_below HEE.out.1 (a := ⟨gU, P * 2, none⟩) (by show gU < we.heap.size; exact hgU) (.int .i64 K0)) (a := ⟨gU, P * 2 + 1, none⟩) (by show gU < we.heap.size; exact hgU) (.slice AG (m + 1) cG)
      have hk8 : Keep [] w8 ((v4.setCell ⟨gU, P * 2, none⟩ (.int .i64 K0)).setCell ⟨gU, P * 2 + 1, none⟩ (.slice AG (m + 1) cG)) := (HOWN.out.2.2.1.trans kz').since hk7 (by simp; omega)
      obtain ⟨A9, c9, e9, hv9⟩ := owns_vals (L := fs ++ [⟨1, xi, 0, 0, 0⟩]) (by rw [List.length_append, HFS.out.2.2]; exact ow5)
      rw [List.length_append, HFS.out.2.2] at e9 hv9
      simp only [List.length_cons, List.length_nil, Value.slice.injEq] at e9 hv9
      obtain ⟨rfl, _, rfl⟩ := e9
      obtain ⟨AN, cN, eN, hN⟩ := nodl_of_row (L := (moreG td P xi).nodes) (vs := fun i => if i = P then .slice AG (m + 1) cG else vs i) (by rw [hlen]; exact ow3) (fun i hi => by
        rw [hlen] at hi
        rw [hatE i hi]
        by_cases e : i = P
        · subst e
          rw [if_pos rfl, if_pos rfl]
          dsimp only
          rw [HFS.out.1, List.length_append, HFS.out.2.2]
          exact ⟨AG, cG, rfl, hv9⟩
        · rw [if_neg e, if_neg e]
          obtain ⟨A', c', e1, e2⟩ := HVV.out i hi
          exact ⟨A', c', e1, e2.keep hk8⟩)
      rw [hlen] at eN
      simp only [Value.slice.injEq, true_and] at eN
      obtain ⟨rfl, rfl⟩ := eN
      have HEN := Lib.hid (And.intro (show GIn _ (some ⟨gU, 0, none⟩) G1 G2 cn y1 y2 (moreG td P xi) from ⟨hN, H8.out.2.1.roots.keep hk8, H8.out.2.1.weaks.keep hk8⟩) (And.intro ((HOWN.out.2.1.keep kz' (by simp)).keep hk7 (by simp; exact hq5.elim ∘ Eq.symm)) hk8))
      clear hk7 kz' own2 ow3 hKP hlen hatE hcon ow5 hk8 hv9 hN
      go_wp2_with fail
      go_meet
      exact ⟨HEN.out.1, HEN.out.2.1, HEN.out.2.2⟩
  case rest =>
  obtain ⟨hgN, hbN, hKN⟩ := hcut
  generalize wc = wf at *
  have hal := alike_any wf _ G1 G2 _ G1 G2 y0 y1 y2 cn y1 y2 td (moreG td P xi) (H8.out.2.1.keep hKN) hgN HPD.out.2.1 (by rw [← HTD.out]; exact more_slim HM.out (of_decide_eq_true HLI.out) xi (by show P < (trimG g).nodes.length; rw [HTD.out, HDL.out.1]; exact hPn))
  rw [decide_eq_false (by have := more_other HM.out (a := P) (by show P < (trimG g).nodes.length; rw [HTD.out, HDL.out.1]; exact hPn) xi; rwa [HTD.out] at this), show (moreG td P xi).nodes.length = d0 from (moreG_n td P xi).trans HDL.out.1, show (moreG td P xi).roots.length = d1 from HDL.out.2.1, show (moreG td P xi).weaks.length = d2 from HDL.out.2.2, HDL.out.1, HDL.out.2.1, HDL.out.2.2] at hal
  obtain ⟨_, _, g0, g1, g2⟩ := HF9.out wf hKN
  have z0 := (hbN.cell 0).trans (show _ = some (Value.slice (some ⟨gU, 0, none⟩) d0 cn) from rfl)
  have z1 := (hbN.cell 1).trans (show _ = some (Value.slice G1 d1 y1) from rfl)
  have z2 := (hbN.cell 2).trans (show _ = some (Value.slice G2 d2 y2) from rfl)
  have HKN := Lib.hid (HKA.out.trans (H8.out.1.trans hKN))
  clear hgN hbN hKN s0 s1 s2 s3 r0 r1 r2 r3
  go_wp2_with fail
  (with_reducible refine hal.mono ?_)
  rintro e v1 ⟨rfl, k1⟩
  have haw := AW.out v1
  have HK1 := Lib.hid (HKN.out.trans k1)
  clear k1 hal g0 g1 g2 z0 z1 z2
  go_wp2_with fail
  (with_reducible refine haw.mono ?_)
  rintro e v2 ⟨rfl, k2⟩
  have HK2 := Lib.hid (HK1.out.trans k2)
  clear k2 haw
  go_wp2
  go_ret
  exact ⟨rfl, HK2.out⟩
end Go.Proofs.Ytigclopkoolocaa
