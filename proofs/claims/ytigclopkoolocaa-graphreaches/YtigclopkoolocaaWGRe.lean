/-
  GraphReaches walked. No conditions but what is in memory.
-/
import Derived.Test.YtigclopkoolocaaGd12
import Derived.Deep.RegionHeld3
namespace Go.Proofs.Ytigclopkoolocaa
open Go.RowKit Go.Flo Go.Bit
set_option maxRecDepth 100000

set_option maxHeartbeats 20000000 in
theorem walk_greach (w : World) (A0 A1 A2 Al : Option Addr) (c0 c1 c2 cl : Nat) (g : Gr) (l : List Int) (h : GIn w A0 A1 A2 c0 c1 c2 g) (hl : IntL w Al cl l) :
    Calls Try.prog 3 #[.agg #[.slice A0 g.nodes.length c0, .slice A1 g.roots.length c1, .slice A2 g.weaks.length c2], .slice Al l.length cl] w fun e w' => e = .returned (.bool true) ∧ Keep [] w w' := by
  have m1 := fun W (hk : Keep [] w W) => mayg_any W A0 A1 A2 c0 c1 c2 g (h.keep hk)
  have m2 := fun W (hk : Keep [] w W) => rmayg_any W A0 A1 A2 c0 c1 c2 g (h.keep hk)
  have r1 := fun W (hk : Keep [] w W) => reach_any W A0 A1 A2 Al c0 c1 c2 cl g l (h.keep hk) (hl.keep hk)
  have r2 := fun W (hk : Keep [] w W) => rreach_any W A0 A1 A2 Al c0 c1 c2 cl g l (h.keep hk) (hl.keep hk)
  have li := fun W (hk : Keep [] w W) => light12_any W A0 A1 A2 c0 c1 c2 g (h.keep hk)
  have AW := Lib.hid awake12_any
  have hlc := hl.nc
  have hlm := hl.cap
  clear h hl
  generalize g.nodes.length = n0 at *
  generalize g.roots.length = n1 at *
  generalize g.weaks.length = n2 at *
  generalize l.length = q at *
  have ka : Keep [] w (w.alloc (.cells #[.slice A0 n0 c0, .slice A1 n1 c1, .slice A2 n2 c2] 25)) := Keep.alloc _ _
  have hba := Blk.new w 25 #[.slice A0 n0 c0, .slice A1 n1 c1, .slice A2 n2 c2]
  obtain ⟨w1, hw1⟩ : ∃ w1, w1 = w.alloc (.cells #[.slice A0 n0 c0, .slice A1 n1 c1, .slice A2 n2 c2] 25) := ⟨_, rfl⟩
  rw [← hw1] at ka hba
  have hf := fun W (hk : Keep [] w1 W) => And.intro (((hba.keep hk (by simp)).cell 0).trans (show _ = some (Value.slice A0 n0 c0) from rfl)) (And.intro (((hba.keep hk (by simp)).cell 1).trans (show _ = some (Value.slice A1 n1 c1) from rfl)) (((hba.keep hk (by simp)).cell 2).trans (show _ = some (Value.slice A2 n2 c2) from rfl)))
  obtain ⟨b, hb⟩ : ∃ b, decide (MayG g) = b := ⟨_, rfl⟩
  rw [hb] at m1 m2
  clear hb
  generalize reachB g l = R at *
  unfold BolPost at r1 r2
  have M1 := Lib.hid (fun W (hk : Keep [] w1 W) => m1 W (ka.trans hk))
  have M2 := Lib.hid (fun W (hk : Keep [] w1 W) => m2 W (ka.trans hk))
  have R1 := Lib.hid (fun W (hk : Keep [] w1 W) => r1 W (ka.trans hk))
  have R2 := Lib.hid (fun W (hk : Keep [] w1 W) => r2 W (ka.trans hk))
  have HF := Lib.hid hf
  have HKA := Lib.hid ka
  have hli := li w1 ka
  obtain ⟨p, hp⟩ : ∃ p, decide (Light12 g) = p := ⟨_, rfl⟩
  rw [hp] at hli
  clear hp m1 m2 r1 r2 hf li ka hba
  cases p with
  | false =>
    go_enter Try.func3, Try.ntmps3
    go_wp2_with fail
    rw [← hw1]
    (with_reducible refine hli.mono ?_)
    rintro e w2 ⟨rfl, k2⟩
    have haw := AW.out w2
    have HK := Lib.hid (HKA.out.trans k2)
    clear k2 hli
    go_wp2_with fail
    (with_reducible refine haw.mono ?_)
    rintro e w3 ⟨rfl, k3⟩
    have HK3 := Lib.hid (HK.out.trans k3)
    clear k3 haw
    go_wp2
    go_ret
    exact ⟨rfl, HK3.out⟩
  | true =>
  by_cases hq : 60 < q
  · have hq' : (60 : Int) < q := by omega
    go_enter Try.func3, Try.ntmps3
    go_wp2_with fail
    rw [← hw1]
    (with_reducible refine hli.mono ?_)
    rintro e w2 ⟨rfl, k2⟩
    have haw := AW.out w2
    have HK := Lib.hid (HKA.out.trans k2)
    clear k2 hli
    go_wp2_with fail
    (with_reducible refine haw.mono ?_)
    rintro e w3 ⟨rfl, k3⟩
    have HK3 := Lib.hid (HK.out.trans k3)
    clear k3 haw
    go_wp2
    go_ret
    exact ⟨rfl, HK3.out⟩
  have hq' : ¬ (60 : Int) < q := by omega
  have hbq : (b == b) = true := by simp
  go_enter Try.func3, Try.ntmps3
  go_wp2_with fail
  rw [← hw1]
  (with_reducible refine hli.mono ?_)
  rintro e w2 ⟨rfl, k2⟩
  have HK2 := Lib.hid k2
  obtain ⟨f0, f1, f2⟩ := HF.out w2.drew (k2.trans (Keep.drew _))
  clear k2 hli hw1
  go_wp2_with fail
  go_region_held3 (fun w' => w'.cell? ⟨w.heap.size, 0, none⟩ = some (.slice A0 n0 c0) ∧ w'.cell? ⟨w.heap.size, 1, none⟩ = some (.slice A1 n1 c1) ∧ w'.cell? ⟨w.heap.size, 2, none⟩ = some (.slice A2 n2 c2)) (first | exact ⟨f0, f1, f2⟩ | go_keep) (first
    | (go_at_call 11; with_reducible refine (M1.out _ (HK2.out.trans (Keep.drew _))).mono ?_; rintro e w4 ⟨rfl, k4⟩; have k4 := (HK2.out.trans (Keep.drew _)).trans k4; obtain ⟨f0, f1, f2⟩ := HF.out _ k4)
    | (go_at_call 12; with_reducible refine (M2.out _ k4).mono ?_; rintro e w5 ⟨rfl, k5⟩; have k5 := k4.trans k5; obtain ⟨f0, f1, f2⟩ := HF.out _ k5)
    | (go_at_call 14; with_reducible refine (R1.out _ k5).mono ?_; rintro e w6 ⟨E, x, rfl, hb1, k6⟩; have k6 := k5.trans k6; obtain ⟨f0, f1, f2⟩ := HF.out _ k6)
    | (go_at_call 15; with_reducible refine (R2.out _ k6).mono ?_; rintro e w7 ⟨G, y, rfl, hb2, k7⟩; have hb1 := hb1.keep k7; have k7 := k6.trans k7; obtain ⟨f0, f1, f2⟩ := HF.out _ k7)
    | (go_at_call 13; with_reducible refine (rsame_bools _ _ _ _ _ _ _ hb1 hb2).mono ?_; rintro e w8 ⟨rfl, k8⟩; have k8 := k7.trans k8; obtain ⟨f0, f1, f2⟩ := HF.out _ k8)
    | (go_at_call 10; with_reducible refine (AW.out _).mono ?_; rintro e w9 ⟨rfl, k9⟩; have k9 := k8.trans k9; obtain ⟨f0, f1, f2⟩ := HF.out _ k9))
  all_goals
    go_wp2
    go_ret
    exact ⟨rfl, HKA.out.trans k9⟩
end Go.Proofs.Ytigclopkoolocaa
