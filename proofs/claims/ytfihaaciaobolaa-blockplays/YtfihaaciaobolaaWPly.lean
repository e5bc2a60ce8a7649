/-
  BlockPlays walked. No conditions but what came in.
-/
import Derived.Test.YtfihaaciaobolaaPl1
import Derived.Test.YtfihaaciaobolaaArg7c
import Derived.LoopN
import Derived.Deep.QuietTactic
import Derived.Deep.RegionWith
import Derived.BigRegion
import Derived.Deep.RegionHeld3
namespace Go.Proofs.Ytfihaaciaobolaa
open Go.RowKit Go.Flo Go.Bit Go.Bmp
set_option maxRecDepth 100000

set_option maxHeartbeats 16000000 in
theorem walk_plays (w : World) (a0 a1 a2 a3 : Int) (A : Option Addr) (len cap : Nat) (f : Nat → Nat) (hW : Wrd w A len cap f) (A2 : Option Addr) (len2 cap2 : Nat) (hI : IsCalls w A2 len2 cap2) :
    Calls Try.prog 3 #[.agg #[.int .i64 a0, .int .i64 a1, .int .i64 a2, .int .i64 a3], .slice A len cap, .slice A2 len2 cap2] w fun e w' => e = .returned (.bool true) ∧ Keep [] w w' := by
  have kb : Keep [] w (w.alloc (.cells #[.int .i64 a0, .int .i64 a1, .int .i64 a2, .int .i64 a3] 22)) := Keep.alloc _ _
  have hbx := Blk.new w 22 #[.int .i64 a0, .int .i64 a1, .int .i64 a2, .int .i64 a3]
  have hcf := config_any (w.alloc (.cells #[.int .i64 a0, .int .i64 a1, .int .i64 a2, .int .i64 a3] 22)) a0 a1 a2 a3
  have ok := cfC_ok a0 a1 a2 a3
  have hall := cfC_all a0 a1 a2 a3
  have hn1 := hI.1
  have hn2 := hI.2.1
  have HI := Lib.hid hI
  clear hI
  go_enter Try.func3, Try.ntmps3
  go_wp2_with fail
  (with_reducible refine hcf.mono ?_)
  rintro e w1 ⟨g, rfl, hK, k1⟩
  have kc : Keep [] w1 (w1.alloc (.cells #[.slice (some ⟨g, 0, none⟩) 1 1, .int .i64 (cfC a0 a1 a2 a3).b0, .int .i64 (bk a1), .int .i64 (bk a2), .int .i64 (bk a3), .int .i64 1, .int .i64 0, .int .i64 40] 27)) := Keep.alloc _ _
  have hbc := Blk.new w1 27 #[.slice (some ⟨g, 0, none⟩) 1 1, .int .i64 (cfC a0 a1 a2 a3).b0, .int .i64 (bk a1), .int .i64 (bk a2), .int .i64 (bk a3), .int .i64 1, .int .i64 0, .int .i64 40]
  have hly := lay_any _ a0 a1 a2 a3 _ (hK.keep kc)
  generalize hw1 : w1.alloc (.cells #[.slice (some ⟨g, 0, none⟩) 1 1, .int .i64 (cfC a0 a1 a2 a3).b0, .int .i64 (bk a1), .int .i64 (bk a2), .int .i64 (bk a3), .int .i64 1, .int .i64 0, .int .i64 40] 27) = wc1 at *
  have hrl : ∀ W, Calls Try.prog 12 #[.agg #[.slice (some ⟨g, 0, none⟩) 1 1, .int .i64 (cfC a0 a1 a2 a3).b0, .int .i64 (bk a1), .int .i64 (bk a2), .int .i64 (bk a3), .int .i64 1, .int .i64 0, .int .i64 40]] W (RLyPost (some ⟨g, 0, none⟩) 1 (cfC a0 a1 a2 a3) W) := fun W => rlay_any (cfC a0 a1 a2 a3) ok (some ⟨g, 0, none⟩) 1 W
  have y0 := (hbc.cell 0).trans (show _ = some (Value.slice (some ⟨g, 0, none⟩) 1 1) from rfl)
  have y1 := (hbc.cell 1).trans (show _ = some (Value.int .i64 (cfC a0 a1 a2 a3).b0) from rfl)
  have y2 := (hbc.cell 2).trans (show _ = some (Value.int .i64 (bk a1)) from rfl)
  have y3 := (hbc.cell 3).trans (show _ = some (Value.int .i64 (bk a2)) from rfl)
  have y4 := (hbc.cell 4).trans (show _ = some (Value.int .i64 (bk a3)) from rfl)
  have y5 := (hbc.cell 5).trans (show _ = some (Value.int .i64 1) from rfl)
  have y6 := (hbc.cell 6).trans (show _ = some (Value.int .i64 0) from rfl)
  have y7 := (hbc.cell 7).trans (show _ = some (Value.int .i64 40) from rfl)
  generalize hC : cfC a0 a1 a2 a3 = C at *
  have HBC := Lib.hid hbc
  have HW1 := Lib.hid hw1
  clear hcf hK hbx hbc hw1
  go_wp2_with fail
  rw [HW1.out]
  (with_reducible refine hly.mono ?_)
  rintro e w2 ⟨l, rfl, hL, k2⟩
  have hbc2 := HBC.out.keep k2 (by simp)
  have z0 := (hbc2.cell 0).trans (show _ = some (Value.slice (some ⟨g, 0, none⟩) 1 1) from rfl)
  have z1 := (hbc2.cell 1).trans (show _ = some (Value.int .i64 C.b0) from rfl)
  have z2 := (hbc2.cell 2).trans (show _ = some (Value.int .i64 (bk a1)) from rfl)
  have z3 := (hbc2.cell 3).trans (show _ = some (Value.int .i64 (bk a2)) from rfl)
  have z4 := (hbc2.cell 4).trans (show _ = some (Value.int .i64 (bk a3)) from rfl)
  have z5 := (hbc2.cell 5).trans (show _ = some (Value.int .i64 1) from rfl)
  have z6 := (hbc2.cell 6).trans (show _ = some (Value.int .i64 0) from rfl)
  have z7 := (hbc2.cell 7).trans (show _ = some (Value.int .i64 40) from rfl)
  clear y0 y1 y2 y3 y4 y5 y6 y7 hly hbc2
  go_wp2_with fail
  (with_reducible refine (hrl w2).mono ?_)
  rintro e w3 ⟨rg, rfl, hRL, k3⟩
  have k03 := (((kb.trans k1).trans kc).trans k2).trans k3
  have hun := unpack_any w3 1000 (by omega) A len cap f (hW.keep k03)
  rw [show (1000 : Int).toNat = 1000 from rfl] at hun
  have HRL := Lib.hid hRL
  clear z0 z1 z2 z3 z4 z5 z6 z7 hrl hRL
  go_wp2_with fail
  (with_reducible refine hun.mono ?_)
  rintro e w4 ⟨gu, cu, rfl, hru, _, k4⟩
  have hrn := rnew_any (HRL.out.keep k4) (by omega) gu cu 1000 _ hru (by omega)
  clear hun
  go_wp2_with fail
  (with_reducible refine hrn.mono ?_)
  rintro e w5 ⟨R, rfl, hR, hro, k5⟩
  rw [show cutB C.all (ofB 1000 len f) = usB C len f from rfl] at hR
  have hof := of_any w5 1000 A len cap f (((hW.keep k03).keep k4).keep k5)
  rw [show clampN 1000 = 1000 by decide] at hof
  have HR := Lib.hid hR
  clear hrn hru hR
  go_wp2_with fail
  (with_reducible refine hof.mono ?_)
  rintro e w6 ⟨LM, rfl, hM, _, _, k6⟩
  have htn := tnew_map2 (hL.keep (((k3.trans k4).trans k5).trans k6)) ok LM 1000 _ hM
  clear hof
  go_wp2_with fail
  (with_reducible refine htn.mono ?_)
  rintro e w7 ⟨L, rfl, hT, hlo, k7⟩
  rw [show cutB C.all (ofB 1000 len f) = usB C len f from rfl] at hT
  generalize usB C len f = U0 at *
  have K07 := Lib.hid ((((k03.trans k4).trans k5).trans k6).trans k7)
  obtain ⟨Ar, cr, hlr⟩ := HR.out.lay
  have HSD := Lib.hid (show Side w5.heap.size L R from ⟨fun k hk => Nat.le_trans k6.size (hlo k hk), HR.out.blk.lt, Blk.lt hlr, HR.out.ur.lt, HR.out.kr.lt⟩)
  have HOWN := Lib.hid (show ∀ k ∈ L.own ++ R.own, w.heap.size ≤ k from fun k hk => by
    have h4 := (k03.trans k4).size
    have h6 := (((k03.trans k4).trans k5).trans k6).size
    rcases List.mem_append.1 hk with h | h
    · have := hlo k (L.own_all k h); omega
    · have := hro k h; omega)
  have hsr7 : ∀ k ∈ R.own, k < w7.heap.size := fun k hk => by
    have := HR.out.own_lt k hk
    have := (k6.trans k7).size
    omega
  have hsl7 := hT.own_lt
  have hR7 := (HR.out.keep0 (k6.trans k7)).congr rfl (kp_self U0)
  have hall4 : C.all ≤ 1000 := by omega
  have hbl := ok.bits_le
  have HT := Lib.hid (And.intro hT hR7)
  clear htn hM hlo hro k3 k4 k5 k6 k7 kb k1 kc k2 k03 hlr hT hR7 hL hW
  go_wp2_with fail
  go_loopw [12] (fun x wr => PlyRel w7 L R C len2 x wr) (fun x _ => len2 - (intOf x).toNat)
  case atStart => exact ⟨0, U0, U0, by omega, by omega, rfl, HT.out.1, HT.out.2, Keep.refl _ _⟩
  case round =>
    obtain ⟨i, U, T, hi, hi60, rfl, hTr, hRr, hKr⟩ := hrel
    by_cases hlt : i < len2
    · have hlt' : (i : Int) < len2 := by omega
      by_cases h60 : i < 60
      · have h60' : (i : Int) < 60 := by omega
        obtain ⟨b, o, hA2, _, hcs⟩ := HI.out.2.2 (by omega)
        subst hA2
        obtain ⟨d, n, A', n', c', l', hca⟩ := hcs i hlt
        have hcr := hca.keep (K07.out.since hKr HOWN.out)
        have c0 := hcr.c0
        have c1 := hcr.c1
        have c2 := hcr.c2
        have ka : Keep [] wr (wr.alloc (.cells #[.int .i64 d, .int .i64 n, .slice A' n' c'] 45)) := Keep.alloc _ _
        have hbx := Blk.new wr 45 #[.int .i64 d, .int .i64 n, .slice A' n' c']
        have hsz7 := hKr.size
        have hsl : ∀ k ∈ L.own, k < wr.heap.size := fun k hk => Nat.lt_of_lt_of_le (hsl7 k hk) hsz7
        have hsr : ∀ k ∈ R.own, k < wr.heap.size := fun k hk => Nat.lt_of_lt_of_le (hsr7 k hk) hsz7
        have hblk := fun (h0 : 0 < n') => hca.l.cells h0
        have HLA := Lib.hid (fun (h0 : 0 < n') a (e : A' = some a) (hm : a.block ∈ L.own) => (by
          obtain ⟨b', o', e1, e2, _⟩ := hblk h0
          rw [e1] at e
          injection e with e
          subst e
          have := HOWN.out b' (List.mem_append_left _ hm)
          omega : False))
        have HRA := Lib.hid (fun (h0 : 0 < n') a (e : A' = some a) (hm : a.block ∈ R.own) => (by
          obtain ⟨b', o', e1, e2, _⟩ := hblk h0
          rw [e1] at e
          injection e with e
          subst e
          have := HOWN.out b' (List.mem_append_right _ hm)
          omega : False))
        have Tx := Lib.hid (hTr.keep0 ka)
        have Rx := Lib.hid (hRr.keep0 ka)
        have Kx := Lib.hid (hKr.trans ka.of_nil)
        have Bx := Lib.hid hbx
        have Ix := Lib.hid (hcr.l.keep ka)
        have hin1 := hca.l.nc
        have hin2 := hca.l.cap
        have hn0 := hca.n0
        have hn1' := hca.n1
        clear hTr hRr hKr hcs hca hcr hblk
        generalize hwx : wr.alloc (.cells #[.int .i64 d, .int .i64 n, .slice A' n' c'] 45) = wx at *
        have HWX := Lib.hid hwx
        have x0 : wx.cell? ⟨wr.heap.size, 0, none⟩ = some (.int .i64 d) := hbx.cell 0
        have x1 : wx.cell? ⟨wr.heap.size, 1, none⟩ = some (.int .i64 n) := hbx.cell 1
        have x2 : wx.cell? ⟨wr.heap.size, 2, none⟩ = some (.slice A' n' c') := hbx.cell 2
        have hsx := ka.size
        clear hwx hbx ka
        go_upto_region 11 with fail
        rw [HWX.out]
        clear c0 c1 c2
        by_cases h40 : 40 < n'
        · have h40' : (40 : Int) < n' := by omega
          go_wp2_with fail
          exact ⟨⟨i + 1, U, T, by omega, by omega, by go_num, Tx.out, Rx.out, Kx.out⟩, by simp [intOf]; omega⟩
        have h40' : ¬ (40 : Int) < n' := by omega
        by_cases hd0 : d = 0
        · subst hd0
          as_aux_lemma =>
            have hx16 : (n < 1 ∨ 16 < n) ∨ (1 ≤ n ∧ n ≤ 16) := by omega
            rcases hx16 with hx | ⟨hx1, hx2⟩
            · have hp := reserve_arg wx (some ⟨L.t, 0, none⟩) n hx
              have hq := rreserve_arg wx (some ⟨R.t, 0, none⟩) n hx
              have HF := Lib.hid (And.intro Tx.out (And.intro Rx.out Kx.out))
              go_wp2_with fail
              (with_reducible refine hp.mono ?_)
              rintro e w8 ⟨rfl, rfl⟩
              go_wp2_with fail
              (with_reducible refine hq.mono ?_)
              rintro e w9 ⟨rfl, rfl⟩
              clear hp hq x0 x1 x2 HWX
              go_wp2_with fail
              generalize wx = wo at *
              go_loopw [182] (fun x wr => (∃ kf : Nat, kf ≤ 4 ∧ x = .int .i64 kf) ∧ Dr wo wr) (fun x _ => 4 - (intOf x).toNat)
              case atStart => exact ⟨⟨0, by omega, rfl⟩, Dr.refl _⟩
              case round =>
                obtain ⟨⟨kf, hkf, rfl⟩, hd⟩ := hrel
                by_cases hk4 : kf < 4
                · have hk4' : (kf : Int) < 4 := by omega
                  have hfr := free_yes (HF.out.1.dr hd) kf (by omega)
                  have hrf := fun W (d : Dr wo W) => rfree_any (HF.out.2.1.dr d) HF.out.1.sub (by omega) kf (by omega)
                  have hfl := cnt_le (nt (T)) (fo C (kf + 1))
                  have hRF := Lib.hid hrf
                  clear hrf hfl
                  generalize fr C (T) kf = y at *
                  have hyy : ((y : Int) == (y : Int)) = true := by simp
                  go_wp2_with fail
                  (with_reducible refine hfr.mono ?_)
                  rintro e w9 ⟨rfl, d9⟩
                  have hrf := hRF.out w9 (hd.trans d9)
                  clear hfr
                  go_wp2_with fail
                  (with_reducible refine hrf.mono ?_)
                  rintro e w9' ⟨rfl, rfl⟩
                  clear hrf
                  go_wp2_with fail
                  go_roundw
                  case rel => exact ⟨⟨kf + 1, by omega, by go_num⟩, hd.trans d9⟩
                  case measure => simp [intOf]; omega
                · have hk4' : ¬ (kf : Int) < 4 := by omega
                  have HF2 := Lib.hid (And.intro (HF.out.1.dr hd) (And.intro (HF.out.2.1.dr hd) (HF.out.2.2.trans (Keep.dr hd))))
                  go_wp2_with fail
                  exact ⟨⟨i + 1, U, T, by omega, by omega, by go_num, HF2.out.1, HF2.out.2.1, HF2.out.2.2⟩, by simp [intOf]; omega⟩
            · have hp := reserve_any Tx.out n hx1 hx2
              have HRQ := Lib.hid (fun W (hR : RTb W R C U (kp U T)) => rreserve_any hR Tx.out.sub hall4 n hx1 hx2)
              generalize fst T (fo C (lc n)) C.all false = XX at *
              go_wp2_with fail
              (with_reducible refine hp.mono ?_)
              rintro e w8 (⟨q, rfl, hql, hTq, rfl, hT8, k8⟩ | ⟨rfl, rfl, d8⟩)
              · have hR8 := HSD.out.rtb Rx.out k8
                have hb8 := Bx.out.keep k8 (fun hm => by have := hsl _ hm; omega)
                have x1 : w8.cell? ⟨wr.heap.size, 1, none⟩ = some (.int .i64 n) := hb8.cell 1
                have hq := HRQ.out w8 hR8
                have HT8 := Lib.hid hT8
                clear hp hR8 hb8 hT8
                go_wp2_with fail
                (with_reducible refine hq.mono ?_)
                rintro e w9 (⟨q', hq', rfl, hR9, k9⟩ | ⟨hno, _⟩)
                case inr => omega
                obtain rfl : q = q' := by omega
                have HF := Lib.hid (And.intro (HSD.out.tbl HT8.out k9) (And.intro hR9 ((Kx.out.trans (Keep.left k8)).trans (Keep.right k9))))
                have hqq : ((q : Int) == (q : Int)) = true := by simp
                clear hq hq' hR9 k8 k9 x0 x1 x2 HWX
                go_wp2_with fail
                generalize w9 = wo at *
                go_loopw [182] (fun x wr => (∃ kf : Nat, kf ≤ 4 ∧ x = .int .i64 kf) ∧ Dr wo wr) (fun x _ => 4 - (intOf x).toNat)
                case atStart => exact ⟨⟨0, by omega, rfl⟩, Dr.refl _⟩
                case round =>
                  obtain ⟨⟨kf, hkf, rfl⟩, hd⟩ := hrel
                  by_cases hk4 : kf < 4
                  · have hk4' : (kf : Int) < 4 := by omega
                    have hfr := free_yes (HF.out.1.dr hd) kf (by omega)
                    have hrf := fun W (d : Dr wo W) => rfree_any (HF.out.2.1.dr d) HF.out.1.sub (by omega) kf (by omega)
                    have hfl := cnt_le (nt (upd T q true)) (fo C (kf + 1))
                    have hRF := Lib.hid hrf
                    clear hrf hfl
                    generalize fr C (upd T q true) kf = y at *
                    have hyy : ((y : Int) == (y : Int)) = true := by simp
                    go_wp2_with fail
                    (with_reducible refine hfr.mono ?_)
                    rintro e w9 ⟨rfl, d9⟩
                    have hrf := hRF.out w9 (hd.trans d9)
                    clear hfr
                    go_wp2_with fail
                    (with_reducible refine hrf.mono ?_)
                    rintro e w9' ⟨rfl, rfl⟩
                    clear hrf
                    go_wp2_with fail
                    go_roundw
                    case rel => exact ⟨⟨kf + 1, by omega, by go_num⟩, hd.trans d9⟩
                    case measure => simp [intOf]; omega
                  · have hk4' : ¬ (kf : Int) < 4 := by omega
                    have HF2 := Lib.hid (And.intro (HF.out.1.dr hd) (And.intro (HF.out.2.1.dr hd) (HF.out.2.2.trans (Keep.dr hd))))
                    go_wp2_with fail
                    exact ⟨⟨i + 1, U, upd T q true, by omega, by omega, by go_num, HF2.out.1, HF2.out.2.1, HF2.out.2.2⟩, by simp [intOf]; omega⟩
              · have x1 : w8.cell? ⟨wr.heap.size, 1, none⟩ = some (.int .i64 n) := dr_cell7 d8 x1
                have hq := HRQ.out w8 (Rx.out.dr d8)
                clear hp
                go_wp2_with fail
                (with_reducible refine hq.mono ?_)
                rintro e w9 (⟨q', hq', _⟩ | ⟨_, rfl, rfl⟩)
                case inl => omega
                have HF := Lib.hid (And.intro (Tx.out.dr d8) (And.intro (Rx.out.dr d8) (Kx.out.trans (Keep.dr d8))))
                clear hq d8 x0 x1 x2 HWX
                go_wp2_with fail
                generalize w8 = wo at *
                go_loopw [182] (fun x wr => (∃ kf : Nat, kf ≤ 4 ∧ x = .int .i64 kf) ∧ Dr wo wr) (fun x _ => 4 - (intOf x).toNat)
                case atStart => exact ⟨⟨0, by omega, rfl⟩, Dr.refl _⟩
                case round =>
                  obtain ⟨⟨kf, hkf, rfl⟩, hd⟩ := hrel
                  by_cases hk4 : kf < 4
                  · have hk4' : (kf : Int) < 4 := by omega
                    have hfr := free_yes (HF.out.1.dr hd) kf (by omega)
                    have hrf := fun W (d : Dr wo W) => rfree_any (HF.out.2.1.dr d) HF.out.1.sub (by omega) kf (by omega)
                    have hfl := cnt_le (nt (T)) (fo C (kf + 1))
                    have hRF := Lib.hid hrf
                    clear hrf hfl
                    generalize fr C (T) kf = y at *
                    have hyy : ((y : Int) == (y : Int)) = true := by simp
                    go_wp2_with fail
                    (with_reducible refine hfr.mono ?_)
                    rintro e w9 ⟨rfl, d9⟩
                    have hrf := hRF.out w9 (hd.trans d9)
                    clear hfr
                    go_wp2_with fail
                    (with_reducible refine hrf.mono ?_)
                    rintro e w9' ⟨rfl, rfl⟩
                    clear hrf
                    go_wp2_with fail
                    go_roundw
                    case rel => exact ⟨⟨kf + 1, by omega, by go_num⟩, hd.trans d9⟩
                    case measure => simp [intOf]; omega
                  · have hk4' : ¬ (kf : Int) < 4 := by omega
                    have HF2 := Lib.hid (And.intro (HF.out.1.dr hd) (And.intro (HF.out.2.1.dr hd) (HF.out.2.2.trans (Keep.dr hd))))
                    go_wp2_with fail
                    exact ⟨⟨i + 1, U, T, by omega, by omega, by go_num, HF2.out.1, HF2.out.2.1, HF2.out.2.2⟩, by simp [intOf]; omega⟩
        have hd0' : (d == 0) = false := by simpa using hd0
        by_cases hd1 : d = 1
        · subst hd1
          have q0 := Rx.out.c2
          have hca := fun W (d : Dr wx W) (h : rb U T n = false) => cancel_no (Tx.out.dr d) n h
          have HCA := Lib.hid hca
          clear hca
          by_cases hneg : n < 0
          · have hrb : rb U T n = false := by unfold rb; rw [gb_off Tx.out.taken.tidy n (.inl hneg)]; rfl
            have hq1 : decide (0 ≤ n) = false := decide_eq_false (by omega)
            have hca := fun W d => HCA.out W d hrb
            have HCA2 := Lib.hid hca
            clear hca hrb
            as_aux_lemma =>
              go_wp2_with fail
              go_quiet (fail)
              go_wp2_with fail
              (with_reducible refine (HCA2.out _ (Dr.drewN _ _)).mono ?_)
              rintro e w8 ⟨rfl, d8⟩
              have dd : Dr wx w8 := (Dr.drewN _ _).trans d8
              have HF := Lib.hid (And.intro (Tx.out.dr dd) (And.intro (Rx.out.dr dd) (Kx.out.trans (Keep.dr dd))))
              clear d8 dd x0 x1 x2 HWX
              go_wp2_with fail
              generalize w8 = wo at *
              go_loopw [182] (fun x wr => (∃ kf : Nat, kf ≤ 4 ∧ x = .int .i64 kf) ∧ Dr wo wr) (fun x _ => 4 - (intOf x).toNat)
              case atStart => exact ⟨⟨0, by omega, rfl⟩, Dr.refl _⟩
              case round =>
                obtain ⟨⟨kf, hkf, rfl⟩, hd⟩ := hrel
                by_cases hk4 : kf < 4
                · have hk4' : (kf : Int) < 4 := by omega
                  have hfr := free_yes (HF.out.1.dr hd) kf (by omega)
                  have hrf := fun W (d : Dr wo W) => rfree_any (HF.out.2.1.dr d) HF.out.1.sub (by omega) kf (by omega)
                  have hfl := cnt_le (nt (T)) (fo C (kf + 1))
                  have hRF := Lib.hid hrf
                  clear hrf hfl
                  generalize fr C (T) kf = y at *
                  have hyy : ((y : Int) == (y : Int)) = true := by simp
                  go_wp2_with fail
                  (with_reducible refine hfr.mono ?_)
                  rintro e w9 ⟨rfl, d9⟩
                  have hrf := hRF.out w9 (hd.trans d9)
                  clear hfr
                  go_wp2_with fail
                  (with_reducible refine hrf.mono ?_)
                  rintro e w9' ⟨rfl, rfl⟩
                  clear hrf
                  go_wp2_with fail
                  go_roundw
                  case rel => exact ⟨⟨kf + 1, by omega, by go_num⟩, hd.trans d9⟩
                  case measure => simp [intOf]; omega
                · have hk4' : ¬ (kf : Int) < 4 := by omega
                  have HF2 := Lib.hid (And.intro (HF.out.1.dr hd) (And.intro (HF.out.2.1.dr hd) (HF.out.2.2.trans (Keep.dr hd))))
                  go_wp2_with fail
                  exact ⟨⟨i + 1, U, T, by omega, by omega, by go_num, HF2.out.1, HF2.out.2.1, HF2.out.2.2⟩, by simp [intOf]; omega⟩
          · by_cases hbig : (C.all : Int) ≤ n
            · have hrb : rb U T n = false := by unfold rb; rw [gb_off Tx.out.taken.tidy n (.inr hbig)]; rfl
              have hq1 : decide (0 ≤ n) = true := decide_eq_true (by omega)
              have hq2 : decide (n < (C.all : Int)) = false := decide_eq_false (by omega)
              have hca := fun W d => HCA.out W d hrb
              have HCA2 := Lib.hid hca
              clear hca hrb
              as_aux_lemma =>
                go_wp2_with fail
                go_quiet (fail)
                go_wp2_with fail
                (with_reducible refine (HCA2.out _ (Dr.drewN _ _)).mono ?_)
                rintro e w8 ⟨rfl, d8⟩
                have dd : Dr wx w8 := (Dr.drewN _ _).trans d8
                have HF := Lib.hid (And.intro (Tx.out.dr dd) (And.intro (Rx.out.dr dd) (Kx.out.trans (Keep.dr dd))))
                clear d8 dd x0 x1 x2 HWX
                go_wp2_with fail
                generalize w8 = wo at *
                go_loopw [182] (fun x wr => (∃ kf : Nat, kf ≤ 4 ∧ x = .int .i64 kf) ∧ Dr wo wr) (fun x _ => 4 - (intOf x).toNat)
                case atStart => exact ⟨⟨0, by omega, rfl⟩, Dr.refl _⟩
                case round =>
                  obtain ⟨⟨kf, hkf, rfl⟩, hd⟩ := hrel
                  by_cases hk4 : kf < 4
                  · have hk4' : (kf : Int) < 4 := by omega
                    have hfr := free_yes (HF.out.1.dr hd) kf (by omega)
                    have hrf := fun W (d : Dr wo W) => rfree_any (HF.out.2.1.dr d) HF.out.1.sub (by omega) kf (by omega)
                    have hfl := cnt_le (nt (T)) (fo C (kf + 1))
                    have hRF := Lib.hid hrf
                    clear hrf hfl
                    generalize fr C (T) kf = y at *
                    have hyy : ((y : Int) == (y : Int)) = true := by simp
                    go_wp2_with fail
                    (with_reducible refine hfr.mono ?_)
                    rintro e w9 ⟨rfl, d9⟩
                    have hrf := hRF.out w9 (hd.trans d9)
                    clear hfr
                    go_wp2_with fail
                    (with_reducible refine hrf.mono ?_)
                    rintro e w9' ⟨rfl, rfl⟩
                    clear hrf
                    go_wp2_with fail
                    go_roundw
                    case rel => exact ⟨⟨kf + 1, by omega, by go_num⟩, hd.trans d9⟩
                    case measure => simp [intOf]; omega
                  · have hk4' : ¬ (kf : Int) < 4 := by omega
                    have HF2 := Lib.hid (And.intro (HF.out.1.dr hd) (And.intro (HF.out.2.1.dr hd) (HF.out.2.2.trans (Keep.dr hd))))
                    go_wp2_with fail
                    exact ⟨⟨i + 1, U, T, by omega, by omega, by go_num, HF2.out.1, HF2.out.2.1, HF2.out.2.2⟩, by simp [intOf]; omega⟩
            · obtain ⟨k, rfl⟩ := Int.eq_ofNat_of_zero_le (show 0 ≤ n by omega)
              have hkl : k < C.all := by omega
              have hkl' : (k : Int) < C.all := by omega
              have hk0 : (0 : Int) ≤ k := by omega
              have hq1 : decide ((0 : Int) ≤ k) = true := decide_eq_true (by omega)
              have hq2 : decide (k < C.all) = true := decide_eq_true (by omega)
              have hq3 : decide ((k : Int) < C.all) = true := decide_eq_true (by omega)
              have ck := Rx.out.kr.cell hkl
              unfold bv at ck
              clear hneg hbig
              cases hkb : kp U T k
              · rw [hkb] at ck
                have hrb : rb U T (k : Int) = false := by rw [rb_at]; exact hkb
                have hca := fun W d => HCA.out W d hrb
                have HCA2 := Lib.hid hca
                clear hca hrb hkb
                as_aux_lemma =>
                  go_wp2_with fail
                  go_quiet (fail)
                  go_wp2_with fail
                  (with_reducible refine (HCA2.out _ (Dr.drewN _ _)).mono ?_)
                  rintro e w8 ⟨rfl, d8⟩
                  have dd : Dr wx w8 := (Dr.drewN _ _).trans d8
                  have HF := Lib.hid (And.intro (Tx.out.dr dd) (And.intro (Rx.out.dr dd) (Kx.out.trans (Keep.dr dd))))
                  clear d8 dd x0 x1 x2 HWX
                  go_wp2_with fail
                  generalize w8 = wo at *
                  go_loopw [182] (fun x wr => (∃ kf : Nat, kf ≤ 4 ∧ x = .int .i64 kf) ∧ Dr wo wr) (fun x _ => 4 - (intOf x).toNat)
                  case atStart => exact ⟨⟨0, by omega, rfl⟩, Dr.refl _⟩
                  case round =>
                    obtain ⟨⟨kf, hkf, rfl⟩, hd⟩ := hrel
                    by_cases hk4 : kf < 4
                    · have hk4' : (kf : Int) < 4 := by omega
                      have hfr := free_yes (HF.out.1.dr hd) kf (by omega)
                      have hrf := fun W (d : Dr wo W) => rfree_any (HF.out.2.1.dr d) HF.out.1.sub (by omega) kf (by omega)
                      have hfl := cnt_le (nt (T)) (fo C (kf + 1))
                      have hRF := Lib.hid hrf
                      clear hrf hfl
                      generalize fr C (T) kf = y at *
                      have hyy : ((y : Int) == (y : Int)) = true := by simp
                      go_wp2_with fail
                      (with_reducible refine hfr.mono ?_)
                      rintro e w9 ⟨rfl, d9⟩
                      have hrf := hRF.out w9 (hd.trans d9)
                      clear hfr
                      go_wp2_with fail
                      (with_reducible refine hrf.mono ?_)
                      rintro e w9' ⟨rfl, rfl⟩
                      clear hrf
                      go_wp2_with fail
                      go_roundw
                      case rel => exact ⟨⟨kf + 1, by omega, by go_num⟩, hd.trans d9⟩
                      case measure => simp [intOf]; omega
                    · have hk4' : ¬ (kf : Int) < 4 := by omega
                      have HF2 := Lib.hid (And.intro (HF.out.1.dr hd) (And.intro (HF.out.2.1.dr hd) (HF.out.2.2.trans (Keep.dr hd))))
                      go_wp2_with fail
                      exact ⟨⟨i + 1, U, T, by omega, by omega, by go_num, HF2.out.1, HF2.out.2.1, HF2.out.2.2⟩, by simp [intOf]; omega⟩
              · rw [hkb] at ck
                have htu : T k = true ∧ U k = false := by
                  unfold kp at hkb
                  simpa using hkb
                have HTU := Lib.hid htu
                clear hkb htu
                as_aux_lemma =>
                  go_wp2_with fail
                  go_quiet (fail)
                  obtain ⟨w8, hw8⟩ : ∃ W, W = wx.drewN nq := ⟨_, rfl⟩
                  rw [← hw8]
                  have d8 : Dr wx w8 := hw8 ▸ Dr.drewN _ _
                  have x1 := dr_cell7 d8 x1
                  have hca := cancel_yes (Tx.out.dr d8) k hkl HTU.out.1 HTU.out.2
                  clear hw8
                  go_wp2_with fail
                  (with_reducible refine hca.mono ?_)
                  rintro e w9 ⟨rfl, hT9, k9⟩
                  have hb9 := (Bx.out.dr d8).keep k9 (fun hm => by have := hsl _ hm; omega)
                  have x1 : w9.cell? ⟨wr.heap.size, 1, none⟩ = some (.int .i64 k) := hb9.cell 1
                  have hR9 := HSD.out.rtb (Rx.out.dr d8) k9
                  have q0 := hR9.c2
                  have fk := hR9.kr.frozen k
                  have ck := hR9.kr.cell hkl
                  unfold bv at ck
                  generalize kp U T k = kb at ck
                  obtain ⟨hR10, k10⟩ := hR9.setK k false
                  rw [← kp_back] at hR10
                  have t1 : Tbl (w9.setCell ⟨R.k, k, none⟩ (.bool false)).drew L C U (upd T k false) := (HSD.out.tbl hT9 k10).keep0 (Keep.drew _)
                  have t2 : RTb (w9.setCell ⟨R.k, k, none⟩ (.bool false)).drew R C U (kp U (upd T k false)) := hR10.keep0 (Keep.drew _)
                  have t3 : Keep (L.own ++ R.own) w7 (w9.setCell ⟨R.k, k, none⟩ (.bool false)).drew := (((Kx.out.trans (Keep.dr d8)).trans (Keep.left k9)).trans (Keep.right k10)).trans (Keep.drew _)
                  have HF := Lib.hid (And.intro t1 (And.intro t2 t3))
                  clear hca hT9 k9 hb9 hR9 hR10 k10 t1 t2 t3 d8 x0 x2 HWX
                  go_wp2_with fail
                  go_region
                  go_wp2_with fail
                  generalize (w9.setCell ⟨R.k, k, none⟩ (.bool false)).drew = wo at *
                  go_loopw [182] (fun x wr => (∃ kf : Nat, kf ≤ 4 ∧ x = .int .i64 kf) ∧ Dr wo wr) (fun x _ => 4 - (intOf x).toNat)
                  case atStart => exact ⟨⟨0, by omega, rfl⟩, Dr.refl _⟩
                  case round =>
                    obtain ⟨⟨kf, hkf, rfl⟩, hd⟩ := hrel
                    by_cases hk4 : kf < 4
                    · have hk4' : (kf : Int) < 4 := by omega
                      have hfr := free_yes (HF.out.1.dr hd) kf (by omega)
                      have hrf := fun W (d : Dr wo W) => rfree_any (HF.out.2.1.dr d) HF.out.1.sub (by omega) kf (by omega)
                      have hfl := cnt_le (nt (upd T k false)) (fo C (kf + 1))
                      have hRF := Lib.hid hrf
                      clear hrf hfl
                      generalize fr C (upd T k false) kf = y at *
                      have hyy : ((y : Int) == (y : Int)) = true := by simp
                      go_wp2_with fail
                      (with_reducible refine hfr.mono ?_)
                      rintro e w9 ⟨rfl, d9⟩
                      have hrf := hRF.out w9 (hd.trans d9)
                      clear hfr
                      go_wp2_with fail
                      (with_reducible refine hrf.mono ?_)
                      rintro e w9' ⟨rfl, rfl⟩
                      clear hrf
                      go_wp2_with fail
                      go_roundw
                      case rel => exact ⟨⟨kf + 1, by omega, by go_num⟩, hd.trans d9⟩
                      case measure => simp [intOf]; omega
                    · have hk4' : ¬ (kf : Int) < 4 := by omega
                      have HF2 := Lib.hid (And.intro (HF.out.1.dr hd) (And.intro (HF.out.2.1.dr hd) (HF.out.2.2.trans (Keep.dr hd))))
                      go_wp2_with fail
                      exact ⟨⟨i + 1, U, upd T k false, by omega, by omega, by go_num, HF2.out.1, HF2.out.2.1, HF2.out.2.2⟩, by simp [intOf]; omega⟩
        have hd1' : (d == 1) = false := by simpa using hd1
        by_cases hd2 : d = 2
        · subst hd2
          as_aux_lemma =>
            have hp := pub_any Tx.out ok A' n' c' l' Ix.out HLA.out
            have HRT := Lib.hid (fun W (hR : RTb W R C U (kp U T)) (hI : Ints W A' n' c' l') => rturn_pub hR Tx.out.taken.tidy hall4 hbl A' n' c' l' hI HRA.out)
            go_wp2_with fail
            (with_reducible refine hp.mono ?_)
            rintro e w8 (⟨hok, A7, cap7, rfl, hE, hEg, hT8, k8⟩ | ⟨hno, rfl, k8⟩)
            · have hR8 := HSD.out.rtb Rx.out k8
              have hb8 := Bx.out.keep k8 (fun hm => by have := hsl _ hm; omega)
              have x1 : w8.cell? ⟨wr.heap.size, 2, none⟩ = some (.slice A' n' c') := hb8.cell 2
              have hI8 := fun (h0 : 0 < n') => Ix.out.keepO k8 (HLA.out h0)
              have hI8' : Ints w8 A' n' c' l' := by
                by_cases h0 : 0 < n'
                · exact hI8 h0
                · exact ⟨Ix.out.nc, Ix.out.nil, Ix.out.cap, fun h => absurd h h0⟩
              have hrt := HRT.out w8 hR8 hI8'
              have HE := Lib.hid (And.intro hE hEg)
              have HT8 := Lib.hid hT8
              have HOK := Lib.hid hok
              have hE1 := hE.nc
              have hE2 := hE.cap
              have hs8 := k8.size
              clear hp hR8 hb8 hI8 hI8' hE hEg hT8 hok
              go_wp2_with fail
              (with_reducible refine hrt.mono ?_)
              rintro e w9 (⟨_, A8, cap8, rfl, hE8, hR9, k9⟩ | ⟨hno, _, _⟩)
              case inr => rw [HOK.out] at hno; cases hno
              have hE7 := ents_over HE.out.1 HE.out.2 (fun k hk => by have := hsr _ hk; omega) k9
              have hT9 := HSD.out.tbl HT8.out k9
              have hsm := same_ents hE7 hE8
              have hE3 := hE8.nc
              have hE4 := hE8.cap
              have hec := enC_le (nmB l' n') (nw C.all)
              generalize enC (nmB l' n') (nw C.all) = en at *
              have HF := Lib.hid (And.intro hT9 (And.intro hR9 ((Kx.out.trans (Keep.left k8)).trans (Keep.right k9))))
              clear hrt hE7 hE8 hR9 hT9 k8 k9 x1
              go_wp2_with fail
              (with_reducible refine hsm.mono ?_)
              rintro e w10 ⟨rfl, d10⟩
              have HF := Lib.hid (And.intro (HF.out.1.dr d10) (And.intro (HF.out.2.1.dr d10) (HF.out.2.2.trans (Keep.dr d10))))
              clear hsm
              go_wp2_with fail
              generalize w10 = wo at *
              go_loopw [182] (fun x wr => (∃ kf : Nat, kf ≤ 4 ∧ x = .int .i64 kf) ∧ Dr wo wr) (fun x _ => 4 - (intOf x).toNat)
              case atStart => exact ⟨⟨0, by omega, rfl⟩, Dr.refl _⟩
              case round =>
                obtain ⟨⟨kf, hkf, rfl⟩, hd⟩ := hrel
                by_cases hk4 : kf < 4
                · have hk4' : (kf : Int) < 4 := by omega
                  have hfr := free_yes (HF.out.1.dr hd) kf (by omega)
                  have hrf := fun W (d : Dr wo W) => rfree_any (HF.out.2.1.dr d) HF.out.1.sub (by omega) kf (by omega)
                  have hfl := cnt_le (nt (put T l' true n')) (fo C (kf + 1))
                  have hRF := Lib.hid hrf
                  clear hrf hfl
                  generalize fr C (put T l' true n') kf = y at *
                  have hyy : ((y : Int) == (y : Int)) = true := by simp
                  go_wp2_with fail
                  (with_reducible refine hfr.mono ?_)
                  rintro e w9 ⟨rfl, d9⟩
                  have hrf := hRF.out w9 (hd.trans d9)
                  clear hfr
                  go_wp2_with fail
                  (with_reducible refine hrf.mono ?_)
                  rintro e w9' ⟨rfl, rfl⟩
                  clear hrf
                  go_wp2_with fail
                  go_roundw
                  case rel => exact ⟨⟨kf + 1, by omega, by go_num⟩, hd.trans d9⟩
                  case measure => simp [intOf]; omega
                · have hk4' : ¬ (kf : Int) < 4 := by omega
                  have HF2 := Lib.hid (And.intro (HF.out.1.dr hd) (And.intro (HF.out.2.1.dr hd) (HF.out.2.2.trans (Keep.dr hd))))
                  go_wp2_with fail
                  exact ⟨⟨i + 1, put U l' true n', put T l' true n', by omega, by omega, by go_num, HF2.out.1, HF2.out.2.1, HF2.out.2.2⟩, by simp [intOf]; omega⟩
            · have hR8 := Rx.out.keep0 k8
              have hb8 := Bx.out.keep k8 (by simp)
              have x1 : w8.cell? ⟨wr.heap.size, 2, none⟩ = some (.slice A' n' c') := hb8.cell 2
              have hrt := HRT.out w8 hR8 (Ix.out.keep k8)
              have hT8 := Tx.out.keep0 k8
              have HT8 := Lib.hid hT8
              have HR8 := Lib.hid hR8
              have HOK := Lib.hid hno
              clear hp hR8 hb8 hT8 hno
              go_wp2_with fail
              (with_reducible refine hrt.mono ?_)
              rintro e w9 (⟨hok, _⟩ | ⟨_, rfl, k9⟩)
              case inl => rw [HOK.out] at hok; cases hok
              have hE0 : Ents w9 [] none 0 0 (fun _ => ⟨0, 0⟩) := ⟨by omega, by omega, fun h => by omega⟩
              have hsm := same_ents hE0 hE0
              have HF := Lib.hid (And.intro (HT8.out.keep0 k9) (And.intro (HR8.out.keep0 k9) ((Kx.out.trans k8.of_nil).trans k9.of_nil)))
              clear hrt hE0 k8 k9 x1
              go_wp2_with fail
              (with_reducible refine hsm.mono ?_)
              rintro e w10 ⟨rfl, d10⟩
              have HF := Lib.hid (And.intro (HF.out.1.dr d10) (And.intro (HF.out.2.1.dr d10) (HF.out.2.2.trans (Keep.dr d10))))
              clear hsm
              go_wp2_with fail
              generalize w10 = wo at *
              go_loopw [182] (fun x wr => (∃ kf : Nat, kf ≤ 4 ∧ x = .int .i64 kf) ∧ Dr wo wr) (fun x _ => 4 - (intOf x).toNat)
              case atStart => exact ⟨⟨0, by omega, rfl⟩, Dr.refl _⟩
              case round =>
                obtain ⟨⟨kf, hkf, rfl⟩, hd⟩ := hrel
                by_cases hk4 : kf < 4
                · have hk4' : (kf : Int) < 4 := by omega
                  have hfr := free_yes (HF.out.1.dr hd) kf (by omega)
                  have hrf := fun W (d : Dr wo W) => rfree_any (HF.out.2.1.dr d) HF.out.1.sub (by omega) kf (by omega)
                  have hfl := cnt_le (nt (T)) (fo C (kf + 1))
                  have hRF := Lib.hid hrf
                  clear hrf hfl
                  generalize fr C (T) kf = y at *
                  have hyy : ((y : Int) == (y : Int)) = true := by simp
                  go_wp2_with fail
                  (with_reducible refine hfr.mono ?_)
                  rintro e w9 ⟨rfl, d9⟩
                  have hrf := hRF.out w9 (hd.trans d9)
                  clear hfr
                  go_wp2_with fail
                  (with_reducible refine hrf.mono ?_)
                  rintro e w9' ⟨rfl, rfl⟩
                  clear hrf
                  go_wp2_with fail
                  go_roundw
                  case rel => exact ⟨⟨kf + 1, by omega, by go_num⟩, hd.trans d9⟩
                  case measure => simp [intOf]; omega
                · have hk4' : ¬ (kf : Int) < 4 := by omega
                  have HF2 := Lib.hid (And.intro (HF.out.1.dr hd) (And.intro (HF.out.2.1.dr hd) (HF.out.2.2.trans (Keep.dr hd))))
                  go_wp2_with fail
                  exact ⟨⟨i + 1, U, T, by omega, by omega, by go_num, HF2.out.1, HF2.out.2.1, HF2.out.2.2⟩, by simp [intOf]; omega⟩
        have hd2' : (d == 2) = false := by simpa using hd2
        as_aux_lemma =>
          have hp := rel_any Tx.out ok A' n' c' l' Ix.out HLA.out
          have HRT := Lib.hid (fun W (hR : RTb W R C U (kp U T)) (hI : Ints W A' n' c' l') => rturn_rel hR Tx.out.taken.tidy hall4 hbl A' n' c' l' hI HRA.out)
          go_wp2_with fail
          (with_reducible refine hp.mono ?_)
          rintro e w8 (⟨hok, A7, cap7, rfl, hE, hEg, hT8, k8⟩ | ⟨hno, rfl, k8⟩)
          · have hR8 := HSD.out.rtb Rx.out k8
            have hb8 := Bx.out.keep k8 (fun hm => by have := hsl _ hm; omega)
            have x1 : w8.cell? ⟨wr.heap.size, 2, none⟩ = some (.slice A' n' c') := hb8.cell 2
            have hI8 := fun (h0 : 0 < n') => Ix.out.keepO k8 (HLA.out h0)
            have hI8' : Ints w8 A' n' c' l' := by
              by_cases h0 : 0 < n'
              · exact hI8 h0
              · exact ⟨Ix.out.nc, Ix.out.nil, Ix.out.cap, fun h => absurd h h0⟩
            have hrt := HRT.out w8 hR8 hI8'
            have HE := Lib.hid (And.intro hE hEg)
            have HT8 := Lib.hid hT8
            have HOK := Lib.hid hok
            have hE1 := hE.nc
            have hE2 := hE.cap
            have hs8 := k8.size
            clear hp hR8 hb8 hI8 hI8' hE hEg hT8 hok
            go_wp2_with fail
            (with_reducible refine hrt.mono ?_)
            rintro e w9 (⟨_, A8, cap8, rfl, hE8, hR9, k9⟩ | ⟨hno, _, _⟩)
            case inr => rw [HOK.out] at hno; cases hno
            have hE7 := ents_over HE.out.1 HE.out.2 (fun k hk => by have := hsr _ hk; omega) k9
            have hT9 := HSD.out.tbl HT8.out k9
            have hsm := same_ents hE7 hE8
            have hE3 := hE8.nc
            have hE4 := hE8.cap
            have hec := enC_le (nmB l' n') (nw C.all)
            generalize enC (nmB l' n') (nw C.all) = en at *
            have HF := Lib.hid (And.intro hT9 (And.intro hR9 ((Kx.out.trans (Keep.left k8)).trans (Keep.right k9))))
            clear hrt hE7 hE8 hR9 hT9 k8 k9 x1
            go_wp2_with fail
            (with_reducible refine hsm.mono ?_)
            rintro e w10 ⟨rfl, d10⟩
            have HF := Lib.hid (And.intro (HF.out.1.dr d10) (And.intro (HF.out.2.1.dr d10) (HF.out.2.2.trans (Keep.dr d10))))
            clear hsm
            go_wp2_with fail
            generalize w10 = wo at *
            go_loopw [182] (fun x wr => (∃ kf : Nat, kf ≤ 4 ∧ x = .int .i64 kf) ∧ Dr wo wr) (fun x _ => 4 - (intOf x).toNat)
            case atStart => exact ⟨⟨0, by omega, rfl⟩, Dr.refl _⟩
            case round =>
              obtain ⟨⟨kf, hkf, rfl⟩, hd⟩ := hrel
              by_cases hk4 : kf < 4
              · have hk4' : (kf : Int) < 4 := by omega
                have hfr := free_yes (HF.out.1.dr hd) kf (by omega)
                have hrf := fun W (d : Dr wo W) => rfree_any (HF.out.2.1.dr d) HF.out.1.sub (by omega) kf (by omega)
                have hfl := cnt_le (nt (put T l' false n')) (fo C (kf + 1))
                have hRF := Lib.hid hrf
                clear hrf hfl
                generalize fr C (put T l' false n') kf = y at *
                have hyy : ((y : Int) == (y : Int)) = true := by simp
                go_wp2_with fail
                (with_reducible refine hfr.mono ?_)
                rintro e w9 ⟨rfl, d9⟩
                have hrf := hRF.out w9 (hd.trans d9)
                clear hfr
                go_wp2_with fail
                (with_reducible refine hrf.mono ?_)
                rintro e w9' ⟨rfl, rfl⟩
                clear hrf
                go_wp2_with fail
                go_roundw
                case rel => exact ⟨⟨kf + 1, by omega, by go_num⟩, hd.trans d9⟩
                case measure => simp [intOf]; omega
              · have hk4' : ¬ (kf : Int) < 4 := by omega
                have HF2 := Lib.hid (And.intro (HF.out.1.dr hd) (And.intro (HF.out.2.1.dr hd) (HF.out.2.2.trans (Keep.dr hd))))
                go_wp2_with fail
                exact ⟨⟨i + 1, put U l' false n', put T l' false n', by omega, by omega, by go_num, HF2.out.1, HF2.out.2.1, HF2.out.2.2⟩, by simp [intOf]; omega⟩
          · have hR8 := Rx.out.keep0 k8
            have hb8 := Bx.out.keep k8 (by simp)
            have x1 : w8.cell? ⟨wr.heap.size, 2, none⟩ = some (.slice A' n' c') := hb8.cell 2
            have hrt := HRT.out w8 hR8 (Ix.out.keep k8)
            have hT8 := Tx.out.keep0 k8
            have HT8 := Lib.hid hT8
            have HR8 := Lib.hid hR8
            have HOK := Lib.hid hno
            clear hp hR8 hb8 hT8 hno
            go_wp2_with fail
            (with_reducible refine hrt.mono ?_)
            rintro e w9 (⟨hok, _⟩ | ⟨_, rfl, k9⟩)
            case inl => rw [HOK.out] at hok; cases hok
            have hE0 : Ents w9 [] none 0 0 (fun _ => ⟨0, 0⟩) := ⟨by omega, by omega, fun h => by omega⟩
            have hsm := same_ents hE0 hE0
            have HF := Lib.hid (And.intro (HT8.out.keep0 k9) (And.intro (HR8.out.keep0 k9) ((Kx.out.trans k8.of_nil).trans k9.of_nil)))
            clear hrt hE0 k8 k9 x1
            go_wp2_with fail
            (with_reducible refine hsm.mono ?_)
            rintro e w10 ⟨rfl, d10⟩
            have HF := Lib.hid (And.intro (HF.out.1.dr d10) (And.intro (HF.out.2.1.dr d10) (HF.out.2.2.trans (Keep.dr d10))))
            clear hsm
            go_wp2_with fail
            generalize w10 = wo at *
            go_loopw [182] (fun x wr => (∃ kf : Nat, kf ≤ 4 ∧ x = .int .i64 kf) ∧ Dr wo wr) (fun x _ => 4 - (intOf x).toNat)
            case atStart => exact ⟨⟨0, by omega, rfl⟩, Dr.refl _⟩
            case round =>
              obtain ⟨⟨kf, hkf, rfl⟩, hd⟩ := hrel
              by_cases hk4 : kf < 4
              · have hk4' : (kf : Int) < 4 := by omega
                have hfr := free_yes (HF.out.1.dr hd) kf (by omega)
                have hrf := fun W (d : Dr wo W) => rfree_any (HF.out.2.1.dr d) HF.out.1.sub (by omega) kf (by omega)
                have hfl := cnt_le (nt (T)) (fo C (kf + 1))
                have hRF := Lib.hid hrf
                clear hrf hfl
                generalize fr C (T) kf = y at *
                have hyy : ((y : Int) == (y : Int)) = true := by simp
                go_wp2_with fail
                (with_reducible refine hfr.mono ?_)
                rintro e w9 ⟨rfl, d9⟩
                have hrf := hRF.out w9 (hd.trans d9)
                clear hfr
                go_wp2_with fail
                (with_reducible refine hrf.mono ?_)
                rintro e w9' ⟨rfl, rfl⟩
                clear hrf
                go_wp2_with fail
                go_roundw
                case rel => exact ⟨⟨kf + 1, by omega, by go_num⟩, hd.trans d9⟩
                case measure => simp [intOf]; omega
              · have hk4' : ¬ (kf : Int) < 4 := by omega
                have HF2 := Lib.hid (And.intro (HF.out.1.dr hd) (And.intro (HF.out.2.1.dr hd) (HF.out.2.2.trans (Keep.dr hd))))
                go_wp2_with fail
                exact ⟨⟨i + 1, U, T, by omega, by omega, by go_num, HF2.out.1, HF2.out.2.1, HF2.out.2.2⟩, by simp [intOf]; omega⟩
      · have h60' : ¬ (i : Int) < 60 := by omega
        as_aux_lemma =>
          have HTr := Lib.hid hTr
          have HRr := Lib.hid hRr
          have HKr := Lib.hid hKr
          have q1 := HRr.out.c1
          have q2 := HRr.out.c2
          clear hTr hRr hKr
          go_wp2_with fail
          generalize wr = wo at *
          go_loopw [198] (fun x wr => (∃ b : Nat, b ≤ C.all ∧ x = .int .i64 b) ∧ Dr wo wr) (fun x _ => C.all - (intOf x).toNat)
          case atStart => exact ⟨⟨0, by omega, rfl⟩, Dr.refl _⟩
          case round =>
            obtain ⟨⟨b, hb, rfl⟩, hd⟩ := hrel
            by_cases hlt : b < C.all
            · have hlt' : (b : Int) < C.all := by omega
              have q1 := dr_cell7 hd q1
              have q2 := dr_cell7 hd q2
              have cu := dr_cell7 hd (HRr.out.ur.cell hlt)
              have ck := dr_cell7 hd (HRr.out.kr.cell hlt)
              have h1 : ∀ n, Calls Try.prog 25 #[.pointer (some ⟨L.t, 0, none⟩), .int .i64 b] (wr.drewN n) fun e w'' => e = .returned (.bool (U b)) ∧ ∃ m, w'' = wr.drewN m := fun n => quiet (by
                have := used_any ((HTr.out.dr hd).dr (Dr.drewN _ n)) b
                rwa [gb_nat] at this)
              have h2 : ∀ n, Calls Try.prog 26 #[.pointer (some ⟨L.t, 0, none⟩), .int .i64 b] (wr.drewN n) fun e w'' => e = .returned (.bool (kp U T b)) ∧ ∃ m, w'' = wr.drewN m := fun n => quiet (by
                have := reserved_any ((HTr.out.dr hd).dr (Dr.drewN _ n)) b
                rwa [rb_at] at this)
              unfold bv at cu ck
              generalize U b = ub at *
              generalize kp U T b = kb at *
              have hbu : (ub != ub) = false := by simp
              have hbk : (kb != kb) = false := by simp
              go_wp2_with fail
              go_quiet ((first | (go_at_call 25; exact h1 _) | (go_at_call 26; exact h2 _)))
              go_wp2_with fail
              go_roundw
              case rel => exact ⟨⟨b + 1, by omega, by go_num⟩, hd.trans (Dr.drewN _ _)⟩
              case measure => simp [intOf]; omega
            · obtain rfl : b = C.all := by omega
              have hge : ¬ ((C.all : Nat) : Int) < (C.all : Nat) := by omega
              have q1 := dr_cell7 hd q1
              have hTW := fun W (hW : Keep [] wr W) => (HTr.out.dr hd).keep0 hW
              have hRW := fun W (hW : Keep [] wr W) => (HRr.out.dr hd).keep0 hW
              have hU1 : gb U (-1) = false := rfl
              have hR1 : rb U T (C.all : Nat) = false := by
                rw [rb_at]
                unfold kp
                rw [HTr.out.taken.tidy _ (Nat.le_refl _)]
                rfl
              have HTW := Lib.hid hTW
              have HRW := Lib.hid hRW
              have hqW := fun W (hW : Keep [] wr W) => (hRW W hW).c1
              have HQW := Lib.hid hqW
              have hnw : nw C.all ≤ 65536 := by unfold nw; omega
              have hg1 := fun W (hW : Keep [] wr W) => (by
                have := used_any (hTW W hW) (-1)
                rwa [hU1] at this : Calls Try.prog 25 #[.pointer (some ⟨L.t, 0, none⟩), .int .i64 (-1)] W fun e w' => e = .returned (.bool false) ∧ Dr W w')
              have hg2 := fun W (hW : Keep [] wr W) => (by
                have := reserved_any (hTW W hW) (C.all : Nat)
                rwa [hR1] at this : Calls Try.prog 26 #[.pointer (some ⟨L.t, 0, none⟩), .int .i64 (C.all : Nat)] W fun e w' => e = .returned (.bool false) ∧ Dr W w')
              have hg3 := fun W (hW : Keep [] wr W) => pack_any W R.u R.cu C.all U hall4 (hRW W hW).ur HRr.out.tidy
              have hg4 := fun W (hW : Keep [] wr W) => free_no (hTW W hW) (-1) (by omega)
              have hg5 := fun W (hW : Keep [] wr W) => free_no (hTW W hW) 4 (by omega)
              have hg6 := fun W (hW : Keep [] wr W) => bits_t (hTW W hW)
              have H1 := Lib.hid hg1
              have H2 := Lib.hid hg2
              have H3 := Lib.hid hg3
              have H4 := Lib.hid hg4
              have H5 := Lib.hid hg5
              have H6 := Lib.hid hg6
              have K0 := Lib.hid ((K07.out.since (HKr.out) HOWN.out).trans (Keep.dr hd))
              clear hTW hRW hU1 hR1 hqW hg1 hg2 hg3 hg4 hg5 hg6 q2
              go_wp2_with fail
              go_region_held3 (fun w' => w'.cell? ⟨R.t, 1, none⟩ = some (.slice (some ⟨R.u, 0, none⟩) C.all R.cu)) (first | exact qW | exact q1 | assumption) (first
                | (go_at_call 25; (with_reducible refine (H1.out _ (by first | assumption | exact Keep.drew _ | exact Keep.refl _ _)).mono ?_); rintro e w' ⟨rfl, d⟩; have KK : Keep [] wr w' := Keep.trans (by first | assumption | exact Keep.drew _ | exact Keep.refl _ _) (Keep.dr (own := []) d); have qW := HQW.out _ KK; (try have hrW := Row.dr hrW d); (try have hrP := Row.dr hrP d))
                | (go_at_call 26; (with_reducible refine (H2.out _ (by first | assumption | exact Keep.drew _ | exact Keep.refl _ _)).mono ?_); rintro e w' ⟨rfl, d⟩; have KK : Keep [] wr w' := Keep.trans (by first | assumption | exact Keep.drew _ | exact Keep.refl _ _) (Keep.dr (own := []) d); have qW := HQW.out _ KK; (try have hrW := Row.dr hrW d); (try have hrP := Row.dr hrP d))
                | (go_at_call 28; (with_reducible refine (H6.out _ (by first | assumption | exact Keep.drew _ | exact Keep.refl _ _)).mono ?_); rintro e w' ⟨LB, rfl, hMB, _, _, k⟩; have KK : Keep [] wr w' := Keep.trans (by first | assumption | exact Keep.drew _ | exact Keep.refl _ _) k; have qW := HQW.out _ KK; (try have hrP := Row.keep hrP k (by simp)))
                | (go_at_call 29; (with_reducible refine (mwords_any hMB).mono ?_); rintro e w' ⟨gW, cW, rfl, hrW, _, k⟩; have KK : Keep [] wr w' := Keep.trans (by first | assumption | exact Keep.drew _ | exact Keep.refl _ _) k; have qW := HQW.out _ KK; (try have hrP := Row.keep hrP k (by simp)))
                | (go_at_call 30; (with_reducible refine (H3.out _ (by first | assumption | exact Keep.drew _ | exact Keep.refl _ _)).mono ?_); rintro e w' ⟨gP, cP, rfl, hrP, _, k⟩; have KK : Keep [] wr w' := Keep.trans (by first | assumption | exact Keep.drew _ | exact Keep.refl _ _) k; have qW := HQW.out _ KK; (try have hMB := Mp.keep0 hMB k); (try have hrW := Row.keep hrW k (by simp)))
                | (go_at_call 27; (with_reducible refine (same_wv _ gW cW gP cP (nw C.all) U hnw hrW hrP).mono ?_); rintro e w' ⟨rfl, d⟩; have KK : Keep [] wr w' := Keep.trans (by first | assumption | exact Keep.drew _ | exact Keep.refl _ _) (Keep.dr (own := []) d); have qW := HQW.out _ KK)
                | (go_at_call 23; (first | (with_reducible refine (H4.out _ (by first | assumption | exact Keep.drew _ | exact Keep.refl _ _)).mono ?_) | (with_reducible refine (H5.out _ (by first | assumption | exact Keep.drew _ | exact Keep.refl _ _)).mono ?_)); rintro e w' ⟨rfl, d⟩; have KK : Keep [] wr w' := Keep.trans (by first | assumption | exact Keep.drew _ | exact Keep.refl _ _) (Keep.dr (own := []) d); have qW := HQW.out _ KK)
                | (go_at_call 31; (with_reducible refine (awake7_any _).mono ?_); rintro e w' ⟨rfl, k⟩; have KK : Keep [] wr w' := Keep.trans (by first | assumption | exact Keep.drew _ | exact Keep.refl _ _) k; have qW := HQW.out _ KK))
              all_goals
                go_wp2_with fail
                go_ret
                exact ⟨rfl, K0.out.trans (by assumption)⟩
    · have hlt' : ¬ (i : Int) < len2 := by omega
      as_aux_lemma =>
        have HTr := Lib.hid hTr
        have HRr := Lib.hid hRr
        have HKr := Lib.hid hKr
        have q1 := HRr.out.c1
        have q2 := HRr.out.c2
        clear hTr hRr hKr
        go_wp2_with fail
        generalize wr = wo at *
        go_loopw [198] (fun x wr => (∃ b : Nat, b ≤ C.all ∧ x = .int .i64 b) ∧ Dr wo wr) (fun x _ => C.all - (intOf x).toNat)
        case atStart => exact ⟨⟨0, by omega, rfl⟩, Dr.refl _⟩
        case round =>
          obtain ⟨⟨b, hb, rfl⟩, hd⟩ := hrel
          by_cases hlt : b < C.all
          · have hlt' : (b : Int) < C.all := by omega
            have q1 := dr_cell7 hd q1
            have q2 := dr_cell7 hd q2
            have cu := dr_cell7 hd (HRr.out.ur.cell hlt)
            have ck := dr_cell7 hd (HRr.out.kr.cell hlt)
            have h1 : ∀ n, Calls Try.prog 25 #[.pointer (some ⟨L.t, 0, none⟩), .int .i64 b] (wr.drewN n) fun e w'' => e = .returned (.bool (U b)) ∧ ∃ m, w'' = wr.drewN m := fun n => quiet (by
              have := used_any ((HTr.out.dr hd).dr (Dr.drewN _ n)) b
              rwa [gb_nat] at this)
            have h2 : ∀ n, Calls Try.prog 26 #[.pointer (some ⟨L.t, 0, none⟩), .int .i64 b] (wr.drewN n) fun e w'' => e = .returned (.bool (kp U T b)) ∧ ∃ m, w'' = wr.drewN m := fun n => quiet (by
              have := reserved_any ((HTr.out.dr hd).dr (Dr.drewN _ n)) b
              rwa [rb_at] at this)
            unfold bv at cu ck
            generalize U b = ub at *
            generalize kp U T b = kb at *
            have hbu : (ub != ub) = false := by simp
            have hbk : (kb != kb) = false := by simp
            go_wp2_with fail
            go_quiet ((first | (go_at_call 25; exact h1 _) | (go_at_call 26; exact h2 _)))
            go_wp2_with fail
            go_roundw
            case rel => exact ⟨⟨b + 1, by omega, by go_num⟩, hd.trans (Dr.drewN _ _)⟩
            case measure => simp [intOf]; omega
          · obtain rfl : b = C.all := by omega
            have hge : ¬ ((C.all : Nat) : Int) < (C.all : Nat) := by omega
            have q1 := dr_cell7 hd q1
            have hTW := fun W (hW : Keep [] wr W) => (HTr.out.dr hd).keep0 hW
            have hRW := fun W (hW : Keep [] wr W) => (HRr.out.dr hd).keep0 hW
            have hU1 : gb U (-1) = false := rfl
            have hR1 : rb U T (C.all : Nat) = false := by
              rw [rb_at]
              unfold kp
              rw [HTr.out.taken.tidy _ (Nat.le_refl _)]
              rfl
            have HTW := Lib.hid hTW
            have HRW := Lib.hid hRW
            have hqW := fun W (hW : Keep [] wr W) => (hRW W hW).c1
            have HQW := Lib.hid hqW
            have hnw : nw C.all ≤ 65536 := by unfold nw; omega
            have hg1 := fun W (hW : Keep [] wr W) => (by
              have := used_any (hTW W hW) (-1)
              rwa [hU1] at this : Calls Try.prog 25 #[.pointer (some ⟨L.t, 0, none⟩), .int .i64 (-1)] W fun e w' => e = .returned (.bool false) ∧ Dr W w')
            have hg2 := fun W (hW : Keep [] wr W) => (by
              have := reserved_any (hTW W hW) (C.all : Nat)
              rwa [hR1] at this : Calls Try.prog 26 #[.pointer (some ⟨L.t, 0, none⟩), .int .i64 (C.all : Nat)] W fun e w' => e = .returned (.bool false) ∧ Dr W w')
            have hg3 := fun W (hW : Keep [] wr W) => pack_any W R.u R.cu C.all U hall4 (hRW W hW).ur HRr.out.tidy
            have hg4 := fun W (hW : Keep [] wr W) => free_no (hTW W hW) (-1) (by omega)
            have hg5 := fun W (hW : Keep [] wr W) => free_no (hTW W hW) 4 (by omega)
            have hg6 := fun W (hW : Keep [] wr W) => bits_t (hTW W hW)
            have H1 := Lib.hid hg1
            have H2 := Lib.hid hg2
            have H3 := Lib.hid hg3
            have H4 := Lib.hid hg4
            have H5 := Lib.hid hg5
            have H6 := Lib.hid hg6
            have K0 := Lib.hid ((K07.out.since (HKr.out) HOWN.out).trans (Keep.dr hd))
            clear hTW hRW hU1 hR1 hqW hg1 hg2 hg3 hg4 hg5 hg6 q2
            go_wp2_with fail
            go_region_held3 (fun w' => w'.cell? ⟨R.t, 1, none⟩ = some (.slice (some ⟨R.u, 0, none⟩) C.all R.cu)) (first | exact qW | exact q1 | assumption) (first
              | (go_at_call 25; (with_reducible refine (H1.out _ (by first | assumption | exact Keep.drew _ | exact Keep.refl _ _)).mono ?_); rintro e w' ⟨rfl, d⟩; have KK : Keep [] wr w' := Keep.trans (by first | assumption | exact Keep.drew _ | exact Keep.refl _ _) (Keep.dr (own := []) d); have qW := HQW.out _ KK; (try have hrW := Row.dr hrW d); (try have hrP := Row.dr hrP d))
              | (go_at_call 26; (with_reducible refine (H2.out _ (by first | assumption | exact Keep.drew _ | exact Keep.refl _ _)).mono ?_); rintro e w' ⟨rfl, d⟩; have KK : Keep [] wr w' := Keep.trans (by first | assumption | exact Keep.drew _ | exact Keep.refl _ _) (Keep.dr (own := []) d); have qW := HQW.out _ KK; (try have hrW := Row.dr hrW d); (try have hrP := Row.dr hrP d))
              | (go_at_call 28; (with_reducible refine (H6.out _ (by first | assumption | exact Keep.drew _ | exact Keep.refl _ _)).mono ?_); rintro e w' ⟨LB, rfl, hMB, _, _, k⟩; have KK : Keep [] wr w' := Keep.trans (by first | assumption | exact Keep.drew _ | exact Keep.refl _ _) k; have qW := HQW.out _ KK; (try have hrP := Row.keep hrP k (by simp)))
              | (go_at_call 29; (with_reducible refine (mwords_any hMB).mono ?_); rintro e w' ⟨gW, cW, rfl, hrW, _, k⟩; have KK : Keep [] wr w' := Keep.trans (by first | assumption | exact Keep.drew _ | exact Keep.refl _ _) k; have qW := HQW.out _ KK; (try have hrP := Row.keep hrP k (by simp)))
              | (go_at_call 30; (with_reducible refine (H3.out _ (by first | assumption | exact Keep.drew _ | exact Keep.refl _ _)).mono ?_); rintro e w' ⟨gP, cP, rfl, hrP, _, k⟩; have KK : Keep [] wr w' := Keep.trans (by first | assumption | exact Keep.drew _ | exact Keep.refl _ _) k; have qW := HQW.out _ KK; (try have hMB := Mp.keep0 hMB k); (try have hrW := Row.keep hrW k (by simp)))
              | (go_at_call 27; (with_reducible refine (same_wv _ gW cW gP cP (nw C.all) U hnw hrW hrP).mono ?_); rintro e w' ⟨rfl, d⟩; have KK : Keep [] wr w' := Keep.trans (by first | assumption | exact Keep.drew _ | exact Keep.refl _ _) (Keep.dr (own := []) d); have qW := HQW.out _ KK)
              | (go_at_call 23; (first | (with_reducible refine (H4.out _ (by first | assumption | exact Keep.drew _ | exact Keep.refl _ _)).mono ?_) | (with_reducible refine (H5.out _ (by first | assumption | exact Keep.drew _ | exact Keep.refl _ _)).mono ?_)); rintro e w' ⟨rfl, d⟩; have KK : Keep [] wr w' := Keep.trans (by first | assumption | exact Keep.drew _ | exact Keep.refl _ _) (Keep.dr (own := []) d); have qW := HQW.out _ KK)
              | (go_at_call 31; (with_reducible refine (awake7_any _).mono ?_); rintro e w' ⟨rfl, k⟩; have KK : Keep [] wr w' := Keep.trans (by first | assumption | exact Keep.drew _ | exact Keep.refl _ _) k; have qW := HQW.out _ KK))
            all_goals
              go_wp2_with fail
              go_ret
              exact ⟨rfl, K0.out.trans (by assumption)⟩
end Go.Proofs.Ytfihaaciaobolaa
