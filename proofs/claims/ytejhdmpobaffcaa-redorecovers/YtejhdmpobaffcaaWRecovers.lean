/-
  RedoRecovers, walked. No conditions.
-/
import Derived.Test.YtejhdmpobaffcaaRRecover
import Derived.Test.YtejhdmpobaffcaaWWrites
import Derived.BigRegion
namespace Go.Proofs.Ytejhdmpobaffcaa
open Go.RowKit Go.Flo
set_option maxRecDepth 100000

def RvLoop (w : World) (g n cap n1 : Nat) (x : Value) (wr : World) : Prop :=
  ∃ (i : Nat) (F : Nat → Int), x = .int .i64 i ∧ i ≤ n1 ∧ Row wr 44 g n cap (u64 F) ∧ (∀ j, 0 ≤ F j) ∧ Keep [g] w wr

theorem Wd.fuse {S : St} (h : Wd S) (x : Int) : Wd (fuseS S x) := fun i => (h i).fuse x
theorem rec_len {S : St} {f t : Int} : S.steps ≤ (recR S f t).1.steps ∧ (recR S f t).1.steps ≤ S.steps + 3000 ∧ (recR S f t).1.n = S.n := by
  unfold recR
  cases e : holdsB f t (S.now f.toNat)
  · repeat' split
    all_goals first | exact ⟨by dsimp only; omega, by dsimp only; omega, rfl⟩ | simp_all
  · have h0 := holdsB_true e
    obtain ⟨m, hm⟩ : ∃ m : Nat, (S.now f.toNat).toNat = m := ⟨_, rfl⟩
    have hmb : m ≤ 1024 := by omega
    rw [hm]
    have h1 := play_steps S (recOps f (logE S f) m)
    have h2 := recOps_len f (logE S f) m
    have h3 := doFl_len (logE S f) m
    have h4 := play_n S (recOps f (logE S f) m)
    repeat' split
    all_goals first | exact ⟨by dsimp only; omega, by dsimp only; omega, rfl⟩ | exact ⟨h1.1, by dsimp only; omega, h4⟩

/-- What Clean tells, and what the law makes of Load. -/
theorem clean_eq (S : St) (f t : Int) (h : mayB S.n f t = true) : cleanR S f t = (ans S.off (hasB S.n f) == 0 && loadV S f == 0, ans S.off (hasB S.n f)) := by
  obtain ⟨f0, f1, t1, _⟩ := mayB_true h
  have hh : hasB S.n f = true := hasB_of f0 (by omega)
  unfold cleanR loadV
  rw [hh, if_neg (by rw [h]; simp)]
  cases S.off <;> simp [ans]

set_option maxHeartbeats 8000000 in
theorem walk_recovers (w : World) (A0 : Option Addr) (n0 cap0 : Nat) (F0 : Nat → Int) (hW : Wds w A0 n0 cap0 F0) (hF0 : ∀ j, 0 ≤ F0 j ∧ F0 j < 18446744073709551616) (f t : Int) (mark : Int) (hmk : 0 ≤ mark) (A1 : Option Addr) (n1 cap1 : Nat) (E : Nat → Ent) (hE : Ents w [] A1 n1 cap1 E) (hEB : EB E n1) (fu : Int) (hfu1 : fu ≤ 9223372036854775807) :
    Calls Try.prog 5 #[.slice A0 n0 cap0, .int .i64 f, .int .i64 t, .int .u64 mark, .slice A1 n1 cap1, .int .i64 fu] w fun e w' => e = .returned (.bool true) ∧ Keep [] w w' := by
  obtain ⟨i0, hi0, hz0, hz1, hz2⟩ := info_parts parts28
  have hcap0 := hW.cap
  have hnc0 := hW.nc
  have hcap1 := hE.cap
  have hnc1 := hE.nc
  have haw := awake_any w
  by_cases hg : 120 < n0 ∨ 40 < n1
  · by_cases h1 : 120 < n0
    · have h1' : (120 : Int) < (n0 : Int) := by omega
      go_enter Try.func5, Try.ntmps5
      go_wp2_with fail
      (with_reducible refine haw.mono ?_)
      rintro e w1 ⟨rfl, hK⟩
      go_wp2
      go_ret
      exact ⟨rfl, hK⟩
    · have h1' : ¬ (120 : Int) < (n0 : Int) := by omega
      have h2' : (40 : Int) < (n1 : Int) := by omega
      go_enter Try.func5, Try.ntmps5
      go_wp2_with fail
      (with_reducible refine haw.mono ?_)
      rintro e w1 ⟨rfl, hK⟩
      go_wp2
      go_ret
      exact ⟨rfl, hK⟩
  · have hb0 : n0 ≤ 120 ∧ n1 ≤ 40 := by omega
    have h1' : ¬ (120 : Int) < (n0 : Int) := by omega
    have h2' : ¬ (40 : Int) < (n1 : Int) := by omega
    have HE := Lib.hid hE
    have HW := Lib.hid hW
    have HF := Lib.hid hF0
    clear hg haw hW hE hF0
    go_enter Try.func5, Try.ntmps5
    go_wp2_with (at_builtin; refine wpList_append_src rfl (.const (.slice none 0 0)) (.tmp 35) 25 rfl w.heap.size 44 i0 (.int .u64 0) 1 8 Try.underlying25 hi0 hz0 hz1 hz2 rfl (by omega) _ 0 [] rfl (World.ownsRow_nil _ _ _ _) A0 n0 cap0 (rowR n0 F0) rfl (by rw [rowR_len]; omega) HW.out.nil HW.out.news (rowR_one _ _) (by simp [maxLen]; omega) (by omega) (Nat.le_refl _) ?_)
    intro v2 w2 hown2 hgrow2
    replace hown2 : w2.ownsRow w.heap.size 44 1 v2 n0 (rowR n0 F0) := by simpa using hown2
    have hk2 : Keep [] w w2 := nil_keptR hgrow2 rfl
    obtain ⟨Av, cv, hv2, hcv1, hcv2⟩ : ∃ (Av : Option Addr) (cv : Nat), v2 = .slice Av n0 cv ∧ n0 ≤ cv ∧ cv ≤ 9223372036854775807 := by
      rcases id hown2.2 with ⟨rfl, h⟩ | ⟨g, cap, cur, rfl, _, _, q1, q2, _⟩
      · exact ⟨none, 0, by rw [h], by omega, by omega⟩
      · exact ⟨_, cap, rfl, q1, by unfold maxLen at q2; omega⟩
    subst hv2
    have HO2 := Lib.hid hown2
    clear hown2 hgrow2 HW hi0 hz0 hz1 hz2
    go_upto_region 4 with fail
    go_cut [44] (fun s44 wx => s44 = .bool (decide (0 ≤ f) && decide (f < (n0 : Int))) ∧ w2 = wx)
    case first =>
      by_cases a1 : 0 ≤ f
      · have a1' : decide (0 ≤ f) = true := by simpa using a1
        go_wp2_with fail
        go_meet
        exact ⟨by simp [a1], rfl⟩
      · have a1' : decide (0 ≤ f) = false := by simpa using a1
        go_wp2_with fail
        go_meet
        exact ⟨by simp; omega, rfl⟩
    case rest =>
    obtain ⟨rfl, rfl⟩ := hcut
    go_upto_if 44 with fail
    go_cut [12] (fun s12 wx => s12 = .bool false ∧ ∃ F, Wds wx Av n0 cv F ∧ (∀ j, 0 ≤ F j) ∧ Keep [] w wx)
    case first =>
      by_cases hin : 0 ≤ f ∧ f < (n0 : Int)
      · obtain ⟨a1, a2⟩ := hin
        obtain ⟨ft, hft⟩ : ∃ ft : Nat, f = ft := ⟨f.toNat, by omega⟩
        subst hft
        have hb1 : (decide ((0 : Int) ≤ (ft : Int)) && decide ((ft : Int) < (n0 : Int))) = true := by simp [a2]
        obtain ⟨g, cap, hgv, hRg, hgw⟩ := rowR_row HO2.out (by omega)
        injection hgv with r1 r2 r3
        subst r1 r3
        have c0 := hRg.cell (show ft < n0 by omega)
        have z0 := hRg.frozen ft
        have hRs : Row (w2.setCell ⟨g, ft, none⟩ (.int .u64 mark)) 44 g n0 cv (Go.Proofs.Ytejhdmpobaffcaa.u64 fun j => if j = ft then mark else F0 j) := (hRg.set_ ft _).congr (fun j _ => by unfold Go.Proofs.Ytejhdmpobaffcaa.u64; dsimp only; split <;> rfl)
        have hKs : Keep [g] w2 (w2.setCell ⟨g, ft, none⟩ (.int .u64 mark)) := Keep.setCell _ _ (by simp) _
        have HRs := Lib.hid hRs
        have HKs := Lib.hid hKs
        have HF1 := Lib.hid (show ∀ j, 0 ≤ (if j = ft then mark else F0 j) from fun j => by split; exact hmk; exact (HF.out j).1)
        unfold Go.Proofs.Ytejhdmpobaffcaa.u64 at c0
        clear hRg hRs hKs
        go_wp2_with fail
        generalize w2.setCell ⟨g, ft, none⟩ (.int .u64 mark) = w3 at *
        go_loopw [51] (fun x wr => RvLoop w2 g n0 cv n1 x wr) (fun x _ => n1 - (intOf x).toNat)
        case atStart => exact ⟨0, _, rfl, by omega, HRs.out, HF1.out, HKs.out⟩
        case round =>
          obtain ⟨i, Fi, rfl, hin1, hRi, hFi, hKi⟩ := hrel
          have hkw : Keep [] w wr := hk2.into hKi (by simpa using hgw)
          by_cases hlt : i < n1
          · obtain ⟨b', o', hA', _, hb', hcc⟩ := (HE.out.lift (own := []) hkw (by simp)).cells (by omega)
            subst hA'
            obtain ⟨c1, c2⟩ := hcc i hlt
            have hlt' : (i : Int) < (n1 : Int) := by omega
            have hEi := hEB i hlt
            obtain ⟨ua, hua⟩ : ∃ ua, IntKind.u64.wrap (E i).a = ua := ⟨_, rfl⟩
            have hur := u64_range (E i).a
            rw [hua] at hur
            have hf4 : (ft : Int) < 4096 := by omega
            have hgl := hRi.lt
            have hne : g ≠ wr.heap.size := by omega
            have ki : Keep [] wr (wr.alloc (.cells #[.int .i64 (E i).a, .int .u64 (E i).v] 46)) := Keep.alloc _ _
            clear hcc
            by_cases hin2 : ft + 8 + 2 * i + 1 < n0
            · obtain ⟨k, hk⟩ : ∃ k, k = ft + 8 + 2 * i := ⟨_, rfl⟩
              have hkz : (ft : Int) + 8 + 2 * (i : Int) = (k : Int) := by omega
              have hk1 : (k : Int) + 1 < (n0 : Int) := by omega
              have hkn : k < n0 ∧ k + 1 < n0 := by omega
              have d0 := (hRi.keep ki (by simp)).cell hkn.1
              have d1 := (hRi.keep ki (by simp)).cell hkn.2
              have z1 := (hRi.keep ki (by simp)).frozen k
              have z2 := (hRi.keep ki (by simp)).frozen (k + 1)
              have hFn : ∀ j, 0 ≤ (if j = k + 1 then (E i).v else if j = k then ua else Fi j) := fun j => by
                split
                · exact hEi.2.2.1
                · split
                  · exact hur.1
                  · exact hFi j
              have HFn := Lib.hid hFn
              have hRk := (hRi.set_ k (.int .u64 ua)).keep (own := []) (Keep.alloc _ (.cells #[.int .i64 (E i).a, .int .u64 (E i).v] 46)) (by simp)
              have x1 := hRk.cell hkn.2
              have y1 := hRk.frozen (k + 1)
              have hRk2 := (hRi.set_ (k + 1) (.int .u64 (E i).v)).keep (own := []) (Keep.alloc _ (.cells #[.int .i64 (E i).a, .int .u64 (E i).v] 46)) (by simp)
              have x2 := hRk2.cell hkn.1
              have y2 := hRk2.frozen k
              rw [if_neg (by omega)] at x1 x2
              have hRf : Row ((wr.setCell ⟨g, k, none⟩ (.int .u64 ua)).setCell ⟨g, k + 1, none⟩ (.int .u64 (E i).v)) 44 g n0 cv (Go.Proofs.Ytejhdmpobaffcaa.u64 fun j => if j = k + 1 then (E i).v else if j = k then ua else Fi j) := ((hRi.set_ k _).set_ (k + 1) _).congr (fun j _ => by
                unfold Go.Proofs.Ytejhdmpobaffcaa.u64
                dsimp only
                split
                · rfl
                · split <;> rfl)
              have HRf := Lib.hid (hRf.keep (own := []) (Keep.alloc _ (.cells #[.int .i64 (E i).a, .int .u64 (E i).v] 46)) (by simp))
              have hKf : Keep [g] w2 (((wr.setCell ⟨g, k, none⟩ (.int .u64 ua)).setCell ⟨g, k + 1, none⟩ (.int .u64 (E i).v)).alloc (.cells #[.int .i64 (E i).a, .int .u64 (E i).v] 46)) := ((hKi.trans (Keep.setCell _ _ (by simp) _)).trans (Keep.setCell _ _ (by simp) _)).trans (Keep.alloc _ _)
              unfold Go.Proofs.Ytejhdmpobaffcaa.u64 at x1 x2
              clear hRk hRk2 hRf
              unfold Go.Proofs.Ytejhdmpobaffcaa.u64 at d0 d1
              clear hFn hk hin2 hRi hFi hEi
              go_wp2_with fail
              go_region
              all_goals
                go_wp2_with fail
                exact ⟨⟨i + 1, _, by go_num, by omega, HRf.out.dr ⟨1, rfl⟩, HFn.out, hKf.trans (Keep.drew _)⟩, by simp [intOf]; omega⟩
            · have hin3 : (n0 : Int) ≤ (ft : Int) + 8 + 2 * (i : Int) + 1 := by omega
              have H1 := Lib.hid (hRi.keep ki (by simp))
              have H2 := Lib.hid hFi
              have hKj := hKi.trans ki.of_nil
              clear hRi hFi hin2
              go_wp2_with fail
              exact ⟨⟨i + 1, Fi, by go_num, by omega, H1.out, H2.out, hKj⟩, by simp [intOf]; omega⟩
          · have hnl : ¬ (i : Int) < (n1 : Int) := by omega
            have H1 := Lib.hid hRi
            have H2 := Lib.hid hFi
            clear hRi hFi
            go_wp2_with fail
            go_meet
            exact ⟨rfl, Fi, Wds.row H1.out, H2.out, hkw⟩
      · have hb1 : (decide (0 ≤ f) && decide (f < (n0 : Int))) = false := by simp; omega
        have H1 : Wds w2 Av n0 cv F0 := by
          rcases Nat.eq_zero_or_pos n0 with h | h
          · exact ⟨hcv1, hcv2, fun h0 => by omega⟩
          · obtain ⟨g, cap, hgv, hRg, hgw⟩ := rowR_row HO2.out h
            injection hgv with r1 r2 r3
            subst r1 r3
            exact Wds.row hRg
        have H1 := Lib.hid H1
        go_wp2_with fail
        go_meet
        exact ⟨rfl, F0, H1.out, fun j => (HF.out j).1, hk2⟩
    case rest =>
    obtain ⟨rfl, F, hWc, hFn, hKc0⟩ := hcut
    have hld := laid_any wc Av n0 cv F hWc (by omega)
    have HFN := Lib.hid hFn
    have hc0 := hKc0.size
    clear hWc hFn HO2 HF
    generalize wc = w4 at *
    go_wp2_with fail
    (with_reducible refine hld.mono ?_)
    rintro e w5 ⟨L, T, rfl, hD, hT, hLf, hTf, hTl, hK5⟩
    obtain ⟨b1, b2, b3, b4⟩ := laidS_facts n0 F
    have hsn : 0 ≤ (laidS n0 F).steps ∧ (laidS n0 F).steps ≤ 500 := by rw [b2]; unfold nl; omega
    have HD := Lib.hid hD
    have HT := Lib.hid hT
    have HTL := Lib.hid hTl
    have HB3 := Lib.hid b3
    have HWD := Lib.hid (laidS_wd n0 F (fun j _ => HFN.out j))
    have hk5 := hKc0.trans hK5
    have hown : ∀ k ∈ L.own ++ T.own, w.heap.size ≤ k := fun k hk => by
      rcases List.mem_append.1 hk with h | h
      · have := hLf k h; omega
      · have := hTf k h; omega
    have HOWN := Lib.hid hown
    have HAP := Lib.hid hT.apart
    clear hld hD hT hTl b1 b2 b3 b4 hown hLf hTf HFN
    generalize laidS n0 F = S0 at *
    go_upto_if 89 with fail
    go_cut [12] (fun s12 wx => s12 = .bool false ∧ ∃ S, Dev wx L S ∧ TwinE wx T L.own S ∧ Wd S ∧ S.n = n0 ∧ 0 ≤ S.steps ∧ S.steps ≤ 500 ∧ Keep (L.own ++ T.own) w5 wx)
    case first =>
      by_cases hf0 : 0 < fu
      · have hfu := fuse_any w5 L S0 HD.out fu hfu1
        go_wp2_with fail
        (with_reducible refine hfu.mono ?_)
        rintro e w6 ⟨rfl, hD6, hK6⟩
        have hT6 := HT.out.keepL hK6
        obtain ⟨_, _, cz, fz, cf⟩ := hT6.cells
        have hT7 := hT6.fused fu hf0 hfu1
        have hK7 : Keep T.own w6 (w6.setCell ⟨T.m, 3, none⟩ (.int .i64 fu)) := Keep.setCell _ _ (by simp [TLoc.own]) _
        have hD7 := hD6.keep hK7 HAP.out
        have H1 := Lib.hid hT7
        have H2 := Lib.hid hD7
        have hK8 : Keep (L.own ++ T.own) w5 (w6.setCell ⟨T.m, 3, none⟩ (.int .i64 fu)) := (hK6.mono (fun _ _ h => List.mem_append.2 (.inl h))).trans (hK7.mono (fun _ _ h => List.mem_append.2 (.inr h)))
        clear hfu hT6 hT7 hD7 hD6
        go_wp2_with fail
        go_meet
        exact ⟨rfl, _, H2.out, H1.out, HWD.out.fuse _, HB3.out, hsn.1, hsn.2, hK8⟩
      · have hf0' : decide (0 < fu) = false := by simpa using hf0
        go_wp2_with fail
        go_meet
        exact ⟨rfl, _, HD.out, HT.out, HWD.out, HB3.out, hsn.1, hsn.2, Keep.refl _ _⟩
    case rest =>
    obtain ⟨rfl, S, hD, hT, hWd, hSn, hs0, hs1, hKc⟩ := hcut
    have hTlc : ∀ k ∈ T.own, k < wc.heap.size := fun k hk => Nat.lt_of_lt_of_le (HTL.out k hk) hKc.size
    have hrc := recover_any wc L S hD hWd f t hs0 (by omega)
    have hrr := fun W (hk : Keep L.own wc W) => rrecover_any W T L.own S (hT.keepL hk) (fun k hk' => Nat.lt_of_lt_of_le (hTlc k hk') hk.size) hWd f t hs0 (by omega)
    obtain ⟨q1, q2, q3⟩ := rec_len (S := S) (f := f) (t := t)
    have HRR := Lib.hid hrr
    have hq : 0 ≤ (recR S f t).1.steps ∧ (recR S f t).1.steps ≤ 5000 := by omega
    have HQ3 := Lib.hid (q3.trans hSn)
    clear hrr hD hT HD HT q1 q2 q3 HB3 hsn hWd HWD
    generalize recR S f t = Q at *
    obtain ⟨Q1, Qn, Q2⟩ := Q
    dsimp only at hrc HRR hq HQ3
    unfold RvPost at HRR
    dsimp only at HRR
    have hk6 := hk5.into hKc HOWN.out
    generalize wc = wq at *
    go_wp2_with fail
    (with_reducible refine hrc.mono ?_)
    rintro e w6 ⟨rfl, hD6, hK6⟩
    have hrr := HRR.out w6 hK6
    clear hrc HRR
    go_wp2_with fail
    (with_reducible refine hrr.mono ?_)
    rintro e w7 ⟨rfl, hT7, hK7⟩
    have hD7 := hD6.keep hK7 HAP.out
    obtain ⟨c2, c4, _⟩ := hT7.cells
    have hst := fun n => steps_any (w7.drewN n) L Q1 (hD7.dr_ (Dr.drewN _ n))
    have HST := Lib.hid hst
    have hk7 : Keep [] w w7 := (hk6.into hK6 (fun k hk => HOWN.out k (List.mem_append.2 (.inl hk)))).into hK7 (fun k hk => HOWN.out k (List.mem_append.2 (.inr hk)))
    have hTw : ∀ k ∈ T.own, k < w7.heap.size := fun k hk => Nat.lt_of_lt_of_le (hTlc k hk) (Nat.le_trans hK6.size hK7.size)
    clear hrr hst hD6 hTlc
    go_wp2_with fail
    go_quiet ((go_at_call 19; refine quiet_same (HST.out _)))
    have hD8 := hD7.dr_ (Dr.drewN w7 nq)
    have hT8 := hT7.keepE (Keep.dr (Dr.drewN w7 nq))
    have hk8 := hk7.trans (Keep.dr (Dr.drewN w7 nq))
    have hTw8 : ∀ k ∈ T.own, k < (w7.drewN nq).heap.size := hTw
    clear HST hD7 hT7 c2 c4
    generalize w7.drewN nq = w8 at *
    have hcl := clean_any w8 L Q1 hD8 f t
    have hlo := fun W (hk : Keep [] w8 W) => rload_any W T L.own Q1 (hT8.keepE hk) f
    have HLO := Lib.hid hlo
    unfold LoadPost at HLO
    have hcm := clean_eq Q1 f t
    rw [HQ3.out] at hcm HLO
    have HCM := Lib.hid hcm
    have hcf : mayB n0 f t = false → cleanR Q1 f t = (false, 1) := fun h => by unfold cleanR; rw [HQ3.out, if_pos h]
    have HCF := Lib.hid hcf
    clear hlo hcm hcf
    generalize cleanR Q1 f t = CR at *
    obtain ⟨C1, C2⟩ := CR
    dsimp only at hcl
    generalize loadV Q1 f = lv at *
    generalize ans Q1.off (hasB n0 f) = av at *
    go_wp2_with fail
    (with_reducible refine hcl.mono ?_)
    rintro e w9 ⟨rfl, hK9⟩
    have hlo := HLO.out w9 hK9
    clear hcl HLO
    go_wp2_with fail
    (with_reducible refine hlo.mono ?_)
    rintro e w10 ⟨rfl, rfl⟩
    clear hlo
    go_upto_region 23 with fail
    go_cut [158] (fun s158 wx => s158 = .bool (!mayB n0 f t) ∧ w9 = wx)
    case first =>
      by_cases h0 : f < 0
      · go_wp2_with fail
        go_meet
        exact ⟨by simp [mayB]; omega, rfl⟩
      · have h0' : decide (f < 0) = false := by simpa using h0
        have h0p : 0 ≤ f := by omega
        by_cases h1 : t ≤ f
        · clear h0
          go_wp2_with fail
          go_meet
          exact ⟨by simp [mayB]; omega, rfl⟩
        · have h1x : decide (t ≤ f) = false := by simpa using h1
          have h1p : f < t := by omega
          by_cases h2 : (n0 : Int) < t
          · clear h0 h1
            go_wp2_with fail
            go_meet
            exact ⟨by simp [mayB]; omega, rfl⟩
          · have h2x : decide ((n0 : Int) < t) = false := by simpa using h2
            have h2p : t ≤ (n0 : Int) := by omega
            have htm : f.tmod 8 = f % 8 := Int.tmod_eq_emod_of_nonneg h0p
            clear h0 h1 h2
            go_wp2_with fail
            go_meet
            exact ⟨by simp [mayB, h0p, h1p, h2p, bne], rfl⟩
    case rest =>
    obtain ⟨rfl, rfl⟩ := hcut
    go_upto_if 158 with fail
    go_cut [24, 25] (fun s24 s25 wx => ∃ x h : Int, s24 = .int .u64 x ∧ s25 = .int .i64 h ∧ C2 = h ∧ C1 = (h == 0 && x == 0) ∧ w9 = wx)
    case first =>
      cases hmy : mayB n0 f t
      · have hc := HCF.out hmy
        injection hc with r1 r2
        clear hmy
        go_wp2_with fail
        go_meet
        exact ⟨1, 1, rfl, rfl, r2, by rw [r1]; rfl, rfl⟩
      · have hc := HCM.out hmy
        injection hc with r1 r2
        have H1 := Lib.hid r1
        have H2 := Lib.hid r2
        clear hmy r1 r2
        go_wp2_with fail
        go_meet
        exact ⟨lv, av, rfl, rfl, H2.out, H1.out, rfl⟩
    case rest =>
    obtain ⟨x, h, rfl, rfl, hc2, hc1, rfl⟩ := hcut
    subst hc2
    go_upto_region 25 with fail
    go_cut [22, 171] (fun s22 s171 wx => s171 = .bool false ∧ w9 = wx)
    case first =>
      cases e1 : (C2 == 0)
      · rw [e1] at hc1
        have hc1' : C1 = false := hc1
        clear hc1
        subst hc1'
        go_wp2_with fail
        go_meet
        exact ⟨rfl, rfl⟩
      · rw [e1] at hc1
        have hc1' : C1 = (x == 0) := by simpa using hc1
        clear hc1
        subst hc1'
        cases e2 : (x == 0)
        · go_wp2_with fail
          go_meet
          exact ⟨rfl, rfl⟩
        · go_wp2_with fail
          go_meet
          exact ⟨rfl, rfl⟩
    case rest =>
    obtain ⟨rfl, rfl⟩ := hcut
    have hD9 := hD8.keep hK9 (by simp)
    have hT9 := hT8.keepE hK9
    have hcr := crash_any w9 L Q1 hD9 none 0 0 (fun _ => 0) (Pk.none _ _)
    have HQN := Lib.hid (show (crashS Q1 fun _ => 0).n = n0 from HQ3.out)
    have hrx := fun W (hk : Keep L.own w9 W) => rcrash_any W T L.own Q1 (hT9.keepL hk) none 0 0 (fun _ => 0) (Pk.none _ _) (fun _ => by omega)
    have HRX := Lib.hid hrx
    have hk9 := hk8.trans hK9
    clear hrx hD9 hT9 hD8 hT8
    generalize (crashS Q1 fun _ => 0) = Q' at *
    go_wp2_with fail
    (with_reducible refine hcr.mono ?_)
    rintro e w10 ⟨rfl, hD10, hK10⟩
    have hrx := HRX.out w10 hK10
    clear hcr HRX
    go_wp2_with fail
    (with_reducible refine hrx.mono ?_)
    rintro e w11 ⟨rfl, hT11, hK11⟩
    have hD11 := hD10.keep hK11 HAP.out
    have hwo := words_any w11 L Q' hD11
    rw [HQN.out] at hwo
    have hkz : Keep [] w w11 := (hk9.into hK10 (fun k hk => HOWN.out k (List.mem_append.2 (.inl hk)))).into hK11 (fun k hk => HOWN.out k (List.mem_append.2 (.inr hk)))
    clear hrx
    go_wp2_with fail
    (with_reducible refine hwo.mono ?_)
    rintro e w12 ⟨g, capg, rfl, hR, _, hK12⟩
    have hrwo := rwords_any w12 T L.own Q' (hT11.keepE hK12)
    clear hwo
    go_wp2_with fail
    (with_reducible refine hrwo.mono ?_)
    rintro e w13 ⟨v, rfl, hO, hK13⟩
    rw [HQN.out] at hO
    have hsm := same_ref w13 _ g n0 capg v _ (by omega) (hR.keep hK13 (by simp)) hO
    clear hrwo
    go_wp2_with fail
    (with_reducible refine hsm.mono ?_)
    rintro e w14 ⟨rfl, hK14⟩
    have haw := awake_any w14
    clear hsm
    go_wp2_with fail
    (with_reducible refine haw.mono ?_)
    rintro e w15 ⟨rfl, hK15⟩
    go_wp2
    go_ret
    exact ⟨rfl, (((hkz.trans hK12).trans hK13).trans hK14).trans hK15⟩
end Go.Proofs.Ytejhdmpobaffcaa
