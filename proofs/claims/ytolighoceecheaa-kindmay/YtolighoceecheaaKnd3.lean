/-
  Package kind: Parse, Zero, Fits. No conditions but what is in memory.
-/
import Derived.Test.YtolighoceecheaaKnd2
namespace Go.Proofs.Ytolighoceecheaa
open Go.RowKit Go.Flo Go.Bit
set_option maxRecDepth 100000

theorem toInt_nat (x : Nat) (hx : x ≤ 4096) (w : World) : Calls Try.prog 31 #[.int .u64 x] w fun e w' => e = .returned (.int .i64 x) ∧ w = w' :=
  (toInt_any x w).mono fun _ _ ⟨a, b⟩ => ⟨a.trans (ret_i64 (wrap64_small hx)), b⟩

set_option maxHeartbeats 2000000 in
theorem kparse_any (x : Nat) (hx : x < 18446744073709551616) (w : World) :
    Calls Try.prog 21 #[.int .u64 x] w (RPkPost x w) := by
  have hm := pm_lt x
  have k1 : Keep [] w (w.alloc (.cells #[.slice none 0 0] 25)) := Keep.alloc _ _
  have hb := Blk.new w 25 #[.slice none 0 0]
  have hG : ∀ W, Calls Try.prog 30 #[.int .u64 x, .int .i64 0, .int .i64 4] W fun e w' => e = .returned (.int .u64 (pm x : Nat)) ∧ Dr W w' := by
    intro W
    have := get_any x 0 4 hx (by omega) W
    rw [show getN x 0 4 = pm x by unfold getN pm; simp] at this
    exact this
  have hmk := fun W => mk_ints (pm x) (by omega) W
  have HB := Lib.hid hb
  clear hb
  go_enter Try.func21, Try.ntmps21
  go_wp2_with fail
  (with_reducible refine (hG _).mono ?_)
  rintro e w2 ⟨rfl, d2⟩
  have hs2 : w2.heap.size = w.heap.size + 1 := by
    obtain ⟨n, rfl⟩ := d2
    simp
  have hb2 := HB.out.keep (Keep.dr (own := []) d2) (by simp)
  have k2 := k1.trans (Keep.dr (own := []) d2)
  clear hG HB d2 k1
  go_wp2
  clear hmk
  go_loopw [12] (fun y wr => PkRel w x y wr) (fun y _ => pm x - (intOf y).toNat)
  case atStart =>
    have ka : Keep [] w2 (w2.alloc (.cells (madeCells #[.int .i64 0] (pm x)) 3)) := Keep.alloc _ _
    have hr := Blk.made (v := .int .i64 0) (n := pm x) (by unfold maxLen; omega) (Blk.new w2 3 (madeCells #[.int .i64 0] (pm x)))
    rw [hs2] at hr
    exact ⟨0, by omega, rfl, hr.congr (fun i hi => by simp), hb2.keep ka (by simp), k2.trans ka⟩
  case round =>
  obtain ⟨j, hj, rfl, hrow, hB, hK⟩ := hrel
  have hrl := hrow.lt
  by_cases hlt : j < pm x
  case neg =>
    obtain rfl : j = pm x := by omega
    have HI : Ints wr (some ⟨w.heap.size + 1, 0, none⟩) (pm x) (pm x) (pf x) := Ints.row (hrow.congr (fun i hi => by simp [hi]))
    have ka : Keep [] wr (wr.alloc (.cells #[.slice (some ⟨w.heap.size + 1, 0, none⟩) (pm x) (pm x)] 25)) := Keep.alloc _ _
    have hB1 := Blk.new wr 25 #[.slice (some ⟨w.heap.size + 1, 0, none⟩) (pm x) (pm x)]
    have hmay := kmay_any _ _ (pm x) (pm x) (pf x) (HI.keep ka)
    have hwd := fun W (hk : Keep [] (wr.alloc (.cells #[.slice (some ⟨w.heap.size + 1, 0, none⟩) (pm x) (pm x)] 25)) W) => kword_any W _ (pm x) (pm x) (pf x) (HI.keep (ka.trans hk))
    have HH := Lib.hid (And.intro HI (And.intro (hB.keep ka (by simp)) (hK.trans ka)))
    have HB1 := Lib.hid hB1
    have k60 : (Try.prog.info? 25).map (·.size) = some (#[.slice none 0 0] : Array Value).size := by kernel_rfl
    have ks : ∀ W u, Keep [w.heap.size] W (W.setCell ⟨w.heap.size, 0, none⟩ u) := fun W u => Keep.setCell _ _ (by simp) _
    clear hrow hB hK HI ka hB1
    by_cases hM : MayK (pm x) (pf x)
    case neg =>
      rw [show decide (MayK (pm x) (pf x)) = false from decide_eq_false hM] at hmay
      have HN := Lib.hid (show ¬ RPk x from fun h => hM h.1)
      clear hM hwd
      go_wp2_with fail
      (with_reducible refine hmay.mono ?_)
      rintro e w3 ⟨rfl, k3⟩
      have hB3 := HH.out.2.1.keep k3 (by simp)
      have y0 := (hB3.cell 0).trans (show _ = some (Value.slice none 0 0) from rfl)
      have y1 := hB3.frozen 0
      go_wp2
      (try simp only [Exit.inBlock, Exit.then])
      have hB5 : Blk (w3.setCell ⟨w.heap.size, 0, none⟩ (.slice none 0 0)) w.heap.size 25 #[.slice none 0 0] := hB3.set_ 0 _
      refine bodyPost_ret (v := .tuple #[.agg #[.slice none 0 0], .bool false]) ?_ rfl ?_
      · exact results_cell_tmp rfl _ _ w.heap.size 25 #[.slice none 0 0] (0, 0) _ _ rfl rfl hB5 Try.underlying25 rfl k60
      exact Or.inr ⟨HN.out, rfl, (HH.out.2.2.trans k3).since (own := [w.heap.size]) (ks _ _) (by simp)⟩
    rw [show decide (MayK (pm x) (pf x)) = true from decide_eq_true hM] at hmay
    rw [show kwz (pm x) (pf x) = kw (pm x) (pf x) from if_pos hM] at hwd
    have hup := kw_p x
    obtain ⟨y, hy⟩ : ∃ y, kw (pm x) (pf x) = y := ⟨_, rfl⟩
    rw [hy] at hwd hup
    have HKW := Lib.hid hwd
    have HM := Lib.hid hM
    clear hwd hM hy
    by_cases hU : Up x
    case neg =>
      have HN := Lib.hid (show ¬ RPk x from fun h => hU h.2)
      have hyx : y ≠ x := fun h => hU (hup.1 h)
      have hne : ((y : Int) == (x : Int)) = false := by simp; omega
      clear hU hup
      go_wp2_with fail
      (with_reducible refine hmay.mono ?_)
      rintro e w3 ⟨rfl, k3⟩
      have q0 := ((HB1.out.keep k3 (by simp)).cell 0).trans (show _ = some (Value.slice (some ⟨w.heap.size + 1, 0, none⟩) (pm x) (pm x)) from rfl)
      go_wp2_with fail
      (with_reducible refine (HKW.out _ k3).mono ?_)
      rintro e w4 ⟨rfl, k4⟩
      have hB3 := HH.out.2.1.keep (k3.trans k4) (by simp)
      have y0 := (hB3.cell 0).trans (show _ = some (Value.slice none 0 0) from rfl)
      have y1 := hB3.frozen 0
      clear q0
      go_wp2
      (try simp only [Exit.inBlock, Exit.then])
      have hB5 : Blk (w4.setCell ⟨w.heap.size, 0, none⟩ (.slice none 0 0)) w.heap.size 25 #[.slice none 0 0] := hB3.set_ 0 _
      refine bodyPost_ret (v := .tuple #[.agg #[.slice none 0 0], .bool false]) ?_ rfl ?_
      · exact results_cell_tmp rfl _ _ w.heap.size 25 #[.slice none 0 0] (0, 0) _ _ rfl rfl hB5 Try.underlying25 rfl k60
      exact Or.inr ⟨HN.out, rfl, ((HH.out.2.2.trans k3).trans k4).since (own := [w.heap.size]) (ks _ _) (by simp)⟩
    have HN := Lib.hid (show RPk x from ⟨HM.out, hU⟩)
    obtain rfl : y = x := hup.2 hU
    have k61 : (Try.prog.info? 25).map (·.size) = some (#[.slice (some ⟨w.heap.size + 1, 0, none⟩) (pm y) (pm y)] : Array Value).size := by kernel_rfl
    clear hU hup
    go_wp2_with fail
    (with_reducible refine hmay.mono ?_)
    rintro e w3 ⟨rfl, k3⟩
    have q0 := ((HB1.out.keep k3 (by simp)).cell 0).trans (show _ = some (Value.slice (some ⟨w.heap.size + 1, 0, none⟩) (pm y) (pm y)) from rfl)
    go_wp2_with fail
    (with_reducible refine (HKW.out _ k3).mono ?_)
    rintro e w4 ⟨rfl, k4⟩
    have hB3 := HH.out.2.1.keep (k3.trans k4) (by simp)
    have y0 := (hB3.cell 0).trans (show _ = some (Value.slice none 0 0) from rfl)
    have y1 := hB3.frozen 0
    have q1 := ((HB1.out.keep (k3.trans k4) (by simp)).cell 0).trans (show _ = some (Value.slice (some ⟨w.heap.size + 1, 0, none⟩) (pm y) (pm y)) from rfl)
    clear q0
    go_wp2
    (try simp only [Exit.inBlock, Exit.then])
    have hB5 : Blk (w4.setCell ⟨w.heap.size, 0, none⟩ (.slice (some ⟨w.heap.size + 1, 0, none⟩) (pm y) (pm y))) w.heap.size 25 #[.slice (some ⟨w.heap.size + 1, 0, none⟩) (pm y) (pm y)] := hB3.set_ 0 _
    refine bodyPost_ret (v := .tuple #[.agg #[.slice (some ⟨w.heap.size + 1, 0, none⟩) (pm y) (pm y)], .bool true]) ?_ rfl ?_
    · exact results_cell_tmp rfl _ _ w.heap.size 25 #[.slice (some ⟨w.heap.size + 1, 0, none⟩) (pm y) (pm y)] (0, 0) _ _ rfl rfl hB5 Try.underlying25 rfl k61
    exact Or.inl ⟨HN.out, _, _, rfl, ((HH.out.1.keep (Keep.alloc _ _)).keep (k3.trans k4)).keepO (ks _ _) (fun a ea => by injection ea with ea; subst ea; simp), fun a ea => (by injection ea with ea; subst ea; simp), ((HH.out.2.2.trans k3).trans k4).since (ks _ _) (by simp)⟩
  obtain ⟨p, hp⟩ : ∃ p, 4 + 2 * j = p := ⟨_, rfl⟩
  have hfa := fun W => kfieldAt_any j (by omega) W
  rw [hp] at hfa
  obtain ⟨u, hu⟩ : ∃ u, getN x p 2 = u := ⟨_, rfl⟩
  have hul : u < 4 := by have := getN_lt x p 2; omega
  have hG : ∀ W, Calls Try.prog 30 #[.int .u64 x, .int .i64 p, .int .i64 2] W fun e w' => e = .returned (.int .u64 (u : Nat)) ∧ Dr W w' := by
    intro W
    have := get_any x p 2 hx (by omega) W
    rw [hu] at this
    exact this
  have hN := fun W => toInt_nat u (by omega) W
  have HE := Lib.hid (show iv (pf x) j = .int .i64 u by unfold iv pf; rw [← hu, ← hp]; rfl)
  have HH := Lib.hid (And.intro hrow (And.intro hB hK))
  clear hp hu hrow hB hK
  go_wp2_with fail
  (with_reducible refine (hfa _).mono ?_)
  rintro e w' ⟨rfl, rfl⟩
  go_wp2_with fail
  (with_reducible refine (hG _).mono ?_)
  rintro e w4 ⟨rfl, d4⟩
  have hrow4 := HH.out.1.keep (Keep.dr (own := []) d4) (by simp)
  have y0 := hrow4.cell hlt
  have y1 := hrow4.frozen j
  rw [show (if j < j then iv (pf x) j else Value.int .i64 0) = .int .i64 0 by simp] at y0
  have HR4 := Lib.hid hrow4
  clear hrow4
  go_wp2_with fail
  (with_reducible refine (hN _).mono ?_)
  rintro e w' ⟨rfl, rfl⟩
  go_wp2
  go_roundw
  case rel =>
    have ks : Keep [w.heap.size + 1] w4 (w4.setCell ⟨w.heap.size + 1, j, none⟩ (.int .i64 u)) := Keep.setCell _ _ (by simp) _
    refine ⟨j + 1, by omega, by go_num, (HR4.out.set_ j _).congr (fun i hi => ?_), (HH.out.2.1.keep (Keep.dr (own := []) d4) (by simp)).far (p := ⟨w.heap.size + 1, j, none⟩) (by simp) _, (HH.out.2.2.trans (Keep.dr (own := []) d4)).since ks (by simp)⟩
    by_cases e : i = j
    · subst e; simp [HE.out]
    · by_cases e2 : i < j
      · simp [e, e2, Nat.lt_succ_of_lt e2]
      · have e3 : ¬ i < j + 1 := by omega
        simp [e, e2, e3]
  case measure => simp [intOf]; omega
end Go.Proofs.Ytolighoceecheaa
