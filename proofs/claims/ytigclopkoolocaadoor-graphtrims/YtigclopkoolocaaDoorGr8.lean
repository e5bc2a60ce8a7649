/-
  The document's twin of package graph: Alike. No conditions but what is in memory.
-/
import Derived.Test.YtigclopkoolocaaDoorGr6
import Derived.Test.YtigclopkoolocaaDoorGr7
import Derived.Deep.RegionHeld3
namespace Go.Proofs.YtigclopkoolocaaDoor
open Go.RowKit Go.Flo Go.Bit
set_option maxRecDepth 100000

set_option maxHeartbeats 20000000 in
theorem ralike_any (w : World) (A0 A1 A2 B0 B1 B2 : Option Addr) (c0 c1 c2 d0 d1 d2 : Nat) (a b : Gr) (h : GIn w A0 A1 A2 c0 c1 c2 a) (h' : GIn w B0 B1 B2 d0 d1 d2 b) (hs : Slim a) (hs' : Slim b) :
    Calls Tryd.prog 14 #[.agg #[.slice A0 a.nodes.length c0, .slice A1 a.roots.length c1, .slice A2 a.weaks.length c2], .agg #[.slice B0 b.nodes.length d0, .slice B1 b.roots.length d1, .slice B2 b.weaks.length d2]] w fun e w' => e = .returned (.bool (decide (AlikeG a b))) ∧ Keep [] w w' := by
  have m1 := fun W (hk : Keep [] w W) => rmayg_any W A0 A1 A2 c0 c1 c2 a (h.keep hk)
  have m2 := fun W (hk : Keep [] w W) => rmayg_any W B0 B1 B2 d0 d1 d2 b (h'.keep hk)
  have t1 := fun W (hk : Keep [] w W) => rtrim_any W A0 A1 A2 c0 c1 c2 a (h.keep hk) hs
  have t2 := fun W (hk : Keep [] w W) => rtrim_any W B0 B1 B2 d0 d1 d2 b (h'.keep hk) hs'
  have HA := Lib.hid (show AlikeG a b ↔ MayG a ∧ MayG b ∧ SameG (trimE a) (trimE b) from by
    unfold AlikeG trimE
    constructor
    · rintro ⟨x, y, z⟩
      rw [if_pos x, if_pos y]
      exact ⟨x, y, (same_trim x).2 z⟩
    · rintro ⟨x, y, z⟩
      rw [if_pos x, if_pos y] at z
      exact ⟨x, y, (same_trim x).1 z⟩)
  have HS := Lib.hid (fun (W : World) (E0 E1 E2 G0 G1 G2 : Option Addr) (e0 e1 e2 g0 g1 g2 : Nat) (x : GIn W E0 E1 E2 e0 e1 e2 (trimE a)) (y : GIn W G0 G1 G2 g0 g1 g2 (trimE b)) => rsameg_any W E0 E1 E2 G0 G1 G2 e0 e1 e2 g0 g1 g2 (trimE a) (trimE b) x y)
  clear h h' hs hs'
  generalize a.nodes.length = n0 at *
  generalize a.roots.length = n1 at *
  generalize a.weaks.length = n2 at *
  generalize b.nodes.length = q0 at *
  generalize b.roots.length = q1 at *
  generalize b.weaks.length = q2 at *
  have ka : Keep [] w (w.alloc (.cells #[.slice A0 n0 c0, .slice A1 n1 c1, .slice A2 n2 c2] 25)) := Keep.alloc _ _
  have hba := Blk.new w 25 #[.slice A0 n0 c0, .slice A1 n1 c1, .slice A2 n2 c2]
  obtain ⟨wa, hwa⟩ : ∃ wa, wa = w.alloc (.cells #[.slice A0 n0 c0, .slice A1 n1 c1, .slice A2 n2 c2] 25) := ⟨_, rfl⟩
  have hza : wa.heap.size = w.heap.size + 1 := by rw [hwa]; simp
  have kb : Keep [] wa (wa.alloc (.cells #[.slice B0 q0 d0, .slice B1 q1 d1, .slice B2 q2 d2] 25)) := Keep.alloc _ _
  have hbb := Blk.new wa 25 #[.slice B0 q0 d0, .slice B1 q1 d1, .slice B2 q2 d2]
  obtain ⟨wb, hwb⟩ : ∃ wb, wb = wa.alloc (.cells #[.slice B0 q0 d0, .slice B1 q1 d1, .slice B2 q2 d2] 25) := ⟨_, rfl⟩
  rw [← hwa] at ka hba
  rw [← hwb] at kb hbb
  rw [hza] at hbb
  rw [hwa] at hwb
  have hba := hba.keep kb (by simp)
  have hkk := ka.trans kb
  have hf := fun W (hk : Keep [] wb W) => And.intro (((hba.keep hk (by simp)).cell 0).trans (show _ = some (Value.slice A0 n0 c0) from rfl)) (And.intro (((hba.keep hk (by simp)).cell 1).trans (show _ = some (Value.slice A1 n1 c1) from rfl)) (And.intro (((hba.keep hk (by simp)).cell 2).trans (show _ = some (Value.slice A2 n2 c2) from rfl))
    (And.intro (((hbb.keep hk (by simp)).cell 0).trans (show _ = some (Value.slice B0 q0 d0) from rfl)) (And.intro (((hbb.keep hk (by simp)).cell 1).trans (show _ = some (Value.slice B1 q1 d1) from rfl)) (((hbb.keep hk (by simp)).cell 2).trans (show _ = some (Value.slice B2 q2 d2) from rfl))))))
  have M1 := Lib.hid (fun W (hk : Keep [] wb W) => (m1 W (hkk.trans hk)).mono (fun e w' (h : _ ∧ Keep [] W w') => (show e = .returned (.bool (decide (MayG a))) ∧ Keep [] W w' ∧ _ from ⟨h.1, h.2, hf w' (hk.trans h.2)⟩)))
  have M2 := Lib.hid (fun W (hk : Keep [] wb W) => (m2 W (hkk.trans hk)).mono (fun e w' (h : _ ∧ Keep [] W w') => (show e = .returned (.bool (decide (MayG b))) ∧ Keep [] W w' ∧ _ from ⟨h.1, h.2, hf w' (hk.trans h.2)⟩)))
  unfold GrPost at t1 t2
  have T1 := Lib.hid (fun W (hk : Keep [] wb W) => t1 W (hkk.trans hk))
  have T2 := Lib.hid (fun W (hk : Keep [] wb W) => t2 W (hkk.trans hk))
  have HF := Lib.hid hf
  have hfd := hf wb.drew (Keep.drew _)
  have HKK := Lib.hid hkk
  clear m1 m2 t1 t2 hf hba hbb ka kb hza hwa hkk
  obtain ⟨pa, hpa⟩ : ∃ p, decide (MayG a) = p := ⟨_, rfl⟩
  obtain ⟨pb, hpb⟩ : ∃ p, decide (MayG b) = p := ⟨_, rfl⟩
  obtain ⟨ps, hps⟩ : ∃ p, decide (SameG (trimE a) (trimE b)) = p := ⟨_, rfl⟩
  rw [hpa] at M1
  rw [hpb] at M2
  have hS2 := HS.out
  rw [hps] at hS2
  have HS2 := Lib.hid hS2
  have HD := Lib.hid (show decide (AlikeG a b) = (pa && (pb && ps)) from by
    rw [← hpa, ← hpb, ← hps, Bool.eq_iff_iff]
    simp only [decide_eq_true_eq, Bool.and_eq_true]
    exact HA.out)
  clear hpa hpb hps hS2 HS HA
  obtain ⟨f0, f1, f2, f3, f4, f5⟩ := hfd
  cases pa with
  | false =>
    go_enter Tryd.func14, Tryd.ntmps14
    go_wp2_with fail
    rw [← hwb]
    clear hwb
    go_region_with ((go_at_call 23; refine (M1.out _ (by repeat (first | (with_reducible refine Keep.trans ?_ (Keep.drew _)) | exact Keep.refl _ _ | exact Keep.dr (Dr.drewN _ _)))).mono ?_; rintro e w4 ⟨rfl, k4, f0, f1, f2, f3, f4, f5⟩))
    all_goals
      go_wp2
      go_ret
      exact ⟨by rw [HD.out]; rfl, HKK.out.trans ((Keep.drew _).trans k4)⟩
  | true =>
    cases pb with
    | false =>
      go_enter Tryd.func14, Tryd.ntmps14
      go_wp2_with fail
      rw [← hwb]
      clear hwb
      go_region_with (first
        | (go_at_call 23; with_reducible refine (M1.out _ (Keep.drew _)).mono ?_; rintro e w4 ⟨rfl, k4, f0, f1, f2, f3, f4, f5⟩; have k4 := (Keep.drew (own := []) wb).trans k4)
        | (go_at_call 23; with_reducible refine (M2.out _ k4).mono ?_; rintro e w5 ⟨rfl, k5, f0, f1, f2, f3, f4, f5⟩; have k5 := k4.trans k5))
      all_goals
        go_wp2
        go_ret
        exact ⟨by rw [HD.out]; rfl, HKK.out.trans k5⟩
    | true =>
      go_enter Tryd.func14, Tryd.ntmps14
      go_wp2_with fail
      rw [← hwb]
      clear hwb
      go_region_held3 (fun w' => w'.cell? ⟨w.heap.size, 0, none⟩ = some (.slice A0 n0 c0) ∧ w'.cell? ⟨w.heap.size, 1, none⟩ = some (.slice A1 n1 c1) ∧ w'.cell? ⟨w.heap.size, 2, none⟩ = some (.slice A2 n2 c2) ∧ w'.cell? ⟨w.heap.size + 1, 0, none⟩ = some (.slice B0 q0 d0) ∧ w'.cell? ⟨w.heap.size + 1, 1, none⟩ = some (.slice B1 q1 d1) ∧ w'.cell? ⟨w.heap.size + 1, 2, none⟩ = some (.slice B2 q2 d2)) (first | exact ⟨f0, f1, f2, f3, f4, f5⟩ | go_keep) (first
        | (go_at_call 23; with_reducible refine (M1.out _ (Keep.drew _)).mono ?_; rintro e w4 ⟨rfl, k4, f0, f1, f2, f3, f4, f5⟩; have k4 := (Keep.drew (own := []) wb).trans k4)
        | (go_at_call 23; with_reducible refine (M2.out _ k4).mono ?_; rintro e w5 ⟨rfl, k5, f0, f1, f2, f3, f4, f5⟩; have k5 := k4.trans k5)
        | (go_at_call 10; with_reducible refine (T2.out _ k6).mono ?_; rintro e w7 ⟨G0, G1, G2, g0, g1, g2, rfl, hg2, k7⟩; have hg1 := hg1.keep k7; have k7 := k6.trans k7; obtain ⟨f0, f1, f2, f3, f4, f5⟩ := HF.out _ k7)
        | (go_at_call 8; with_reducible refine (HS2.out _ _ _ _ _ _ _ _ _ _ _ _ _ hg1 hg2).mono ?_; rintro e w8 ⟨rfl, k8⟩; have k8 := k7.trans k8; obtain ⟨f0, f1, f2, f3, f4, f5⟩ := HF.out _ k8)
        | (go_at_call 10; with_reducible refine (T1.out _ k5).mono ?_; rintro e w6 ⟨E0, E1, E2, e0, e1, e2, rfl, hg1, k6⟩; have k6 := k5.trans k6; obtain ⟨f0, f1, f2, f3, f4, f5⟩ := HF.out _ k6))
      all_goals
        go_wp2
        go_ret
        exact ⟨by rw [HD.out]; rfl, HKK.out.trans k8⟩
end Go.Proofs.YtigclopkoolocaaDoor
