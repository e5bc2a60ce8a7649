/-
  HandleStale walked. No conditions but what came in.
-/
import Derived.Test.YtejepiobdkbgpaaHst
import Derived.Test.YtejepiobdkbgpaaWH1
import Derived.Test.YtejepiobdkbgpaaArg13
import Derived.LoopN
import Derived.Deep.DeepCutAuto
namespace Go.Proofs.Ytejepiobdkbgpaa
open Go.RowKit Go.Flo
set_option maxRecDepth 100000

def StRel (w : World) (g p q B len : Nat) (y x : Value) (wr : World) : Prop :=
  ∃ (i : Nat) (S : Nat → Slt) (isH : Int → Bool) (isC goC : Int → Int) (T : List Int), i ≤ len ∧ i ≤ 200 ∧ x = .int .i64 i ∧ Inv13 S isH isC goC T i ∧ Mem13 w g p q B i S isH isC goC T y wr ∧ T.length ≤ i

theorem stale_start {w w1 : World} {g : Nat} (t1 : Tab w1 g noS) (hg : w.heap.size ≤ g) (k1 : Keep [] w w1) :
    Ord13 w g w1.heap.size (w1.heap.size + 1) (w1.heap.size + 2) ∧ Mem13 w g w1.heap.size (w1.heap.size + 1) (w1.heap.size + 2) 0 noS (fun _ => false) (fun _ => 0) (fun _ => 0) [] (.slice none 0 0) ((w1.alloc (.map #[] 0)).alloc (.map #[] 0)) := by
  have e1 : (w1.alloc (.map #[] 0)).heap.size = w1.heap.size + 1 := by simp
  have e2 : ((w1.alloc (.map #[] 0)).alloc (.map #[] 0)).heap.size = w1.heap.size + 2 := by simp
  have ka : Keep [] w1 (w1.alloc (.map #[] 0)) := Keep.alloc _ _
  have kb : Keep [] (w1.alloc (.map #[] 0)) ((w1.alloc (.map #[] 0)).alloc (.map #[] 0)) := Keep.alloc _ _
  have m2 := IMap.made (w1.alloc (.map #[] 0))
  rw [e1] at m2
  refine ⟨⟨hg, t1.lt, by omega, by omega⟩, ⟨t1.keep (ka.trans kb) (by simp), ⟨0, (IMap.made w1).keep kb (by simp)⟩, ⟨_, 0, m2⟩, ⟨rfl, Or.inl ⟨rfl, rfl⟩⟩, (k1.trans ka).trans kb, by omega⟩⟩

set_option maxHeartbeats 4000000 in
theorem walk_hstale (w : World) (A : Option Addr) (len cap : Nat) (hI : IsCalls w A len cap) : Calls Try.prog 6 #[.slice A len cap] w fun e w' => e = .returned (.bool true) ∧ Keep [] w w' := by
  have hn1 := hI.1
  have hn2 := hI.2.1
  have HI := Lib.hid hI
  clear hI
  have hn := new_any w
  have hmm := @run_makeMap Try.prog
  go_enter Try.func6, Try.ntmps6
  go_wp2_with fail
  (with_reducible refine hn.mono ?_)
  rintro e w1 ⟨g, rfl, t1, hg, k1⟩
  have H0 := Lib.hid (stale_start t1 hg k1)
  clear hn t1 k1 hg
  go_wp2_with fail
  generalize (w1.alloc (.map #[] 0)).alloc (.map #[] 0) = W0 at *
  generalize w1.heap.size + 2 = B at *
  generalize hq : w1.heap.size + 1 = q at *
  generalize w1.heap.size = p at *
  clear hq
  have O := Lib.hid H0.out.1
  clear hmm
  go_loopw [6, 7] (fun y x wr => StRel w g p q B len y x wr) (fun _ x _ => 200 - (intOf x).toNat)
  case atStart => exact ⟨0, _, _, _, _, _, by omega, by omega, rfl, Inv13.first, H0.out.2, by simp⟩
  case round =>
    clear H0
    obtain ⟨i, S, isH, isC, goC, T, hi, hi200, rfl, hv, M, hTi⟩ := hrel
    by_cases hlt : i < len
    case neg =>
      · have hlt' : ¬ (i : Int) < len := by omega
        have ha := awake13_any wr
        have HKx := Lib.hid M.kp
        clear M
        go_wp2_with fail
        (with_reducible refine ha.mono ?_)
        rintro e w5 ⟨rfl, k5⟩
        go_wp2_with fail
        go_ret
        exact ⟨rfl, HKx.out.trans k5⟩
    have hlt' : (i : Int) < len := by omega
    by_cases h200 : i < 200
    case neg =>
      · have h200' : ¬ (i : Int) < 200 := by omega
        have ha := awake13_any wr
        have HKx := Lib.hid M.kp
        clear M
        go_wp2_with fail
        (with_reducible refine ha.mono ?_)
        rintro e w5 ⟨rfl, k5⟩
        go_wp2_with fail
        go_ret
        exact ⟨rfl, HKx.out.trans k5⟩
    have h200' : (i : Int) < 200 := by omega
    obtain ⟨b, o, hA, _, hcs⟩ := HI.out.2.2 (by omega)
    cases hA
    obtain ⟨d, h, xo, m, hca⟩ := hcs i hlt
    have hh0 := hca.h0
    have hh1 := hca.h1
    have hx0 := hca.x0
    have hx1 := hca.x1
    have hca := hca.keep M.kp
    have c0 := hca.c0
    have c1 := hca.c1
    have c2 := hca.c2
    have c3 := hca.c3
    have MV := M.keep0 (Keep.alloc wr (.cells #[.int .i64 d, .int .i64 h, .int .i64 xo, .bool m] 32))
    have hbv := Blk.new wr 32 #[.int .i64 d, .int .i64 h, .int .i64 xo, .bool m]
    have hBle := M.le
    clear M hca hcs
    obtain ⟨v0, hv0⟩ : ∃ v0, wr.heap.size = v0 := ⟨_, rfl⟩
    generalize hwx : wr.alloc (.cells #[.int .i64 d, .int .i64 h, .int .i64 xo, .bool m] 32) = wx at *
    rw [hv0] at hbv hBle
    have HWX := Lib.hid (And.intro hwx hv0)
    have x0 : wx.cell? ⟨v0, 0, none⟩ = some (.int .i64 d) := hbv.cell 0
    have x1 : wx.cell? ⟨v0, 1, none⟩ = some (.int .i64 h) := hbv.cell 1
    have x2 : wx.cell? ⟨v0, 2, none⟩ = some (.int .i64 xo) := hbv.cell 2
    have x3 : wx.cell? ⟨v0, 3, none⟩ = some (.bool m) := hbv.cell 3
    have HBV := Lib.hid hbv
    clear hwx hv0 hbv
    go_upto_region 8 with fail
    rw [HWX.out.1, HWX.out.2]
    have MV := Lib.hid MV
    clear c0 c1 c2 c3
    by_cases hd : d = 0
    · subst hd
      obtain ⟨n, hn⟩ := lf_of S
      have hag := hv.age n
      have hp := put_any MV.out.tab hn (by omega) xo
      have HN := Lib.hid hn
      have HV := Lib.hid hv
      clear hn hag hv
      go_upto_region 9 with fail
      go_wp2_with fail
      (with_reducible refine hp.mono ?_)
      rintro e w2 (⟨hn64, rfl, t2, k2⟩ | ⟨hn64, rfl, rfl⟩)
      · have hfree := HN.out.2.2 hn64
        have hfresh := HV.out.fresh hn64 hfree
        have HV2 := Lib.hid (HV.out.put hn64 hfree xo)
        have hage := HV.out.age n
        have M2 := MV.out.withTab O.out k2 t2
        have hb2 := HBV.out.keep k2 (by simp; have := O.out.gp; have := O.out.pq; have := O.out.qB; have := HBV.out.lt; omega)
        have z2 : w2.cell? ⟨v0, 2, none⟩ = some (.int .i64 xo) := hb2.cell 2
        obtain ⟨sz, hmis⟩ := M2.mis
        generalize hH : ((S n).a : Int) * 64 + n = H at *
        have hHr : 0 ≤ H ∧ H ≤ 20000 := by omega
        have HM2 := Lib.hid M2
        have HMI := Lib.hid hmis
        clear hp t2 k2 M2 hb2 hmis hage hH MV HV HN x0 x1 x2 x3 HBV
        go_wp2_with (first | (at_lookup; refine wpList_imap_ok rfl _ _ rfl p i _ _ _ rfl HMI.out H rfl (WalkArith.wf_i64 (by omega)) (isC H) rfl false hfresh ?_) | (at_mapUpdate; refine wpList_imap_put rfl _ _ _ rfl p i _ _ _ rfl HMI.out (by omega) H xo rfl rfl (WalkArith.wf_i64 (by omega)) (WalkArith.wf_i64 (by omega)) ?_))
        intro w3 hm3 k3
        have M3 := (HM2.out.withIs O.out k3 hm3).keep0 (Keep.alloc w3 (.cells #[.int .i64 H] 3))
        have hN1 := one_new6 w3 (.int .i64 H) 3
        have HM3 := Lib.hid (And.intro M3 hN1)
        have hle3 := (HM2.out.withIs O.out k3 hm3).le
        obtain ⟨ii, hii, hz0, hz1, hz2⟩ := info_of intparts
        clear hm3 k3 HM2 HMI M3 hN1 z2
        go_wp2_with (at_builtin; refine wpList_append_own_at _ rfl (.tmp 61) (.tmp 63) 30 rfl B 3 ii (.int .i64 0) 1 8 Try.underlying30 hii hz0 hz1 hz2 rfl (by omega) _ T.length (T.map i64v) rfl HM3.out.1.row ⟨w3.heap.size, 0, none⟩ 1 1 [.int .i64 H] rfl rfl HM3.out.2 ?c3 ?c4 ?c5 ?c6 ?_)
        case c3 => first | rfl | (intro z hz; simp at hz; subst hz; rfl)
        case c4 => unfold maxLen; omega
        case c5 => omega
        case c6 => first | omega | (simp; omega)
        intro v' w4 hown hgrow _ _
        have M4 := HM3.out.1.withRow (v' := v') (T' := T ++ [H]) O.out (by rw [List.map_append, List.length_append]; exact hown) hgrow
        have HM4 := Lib.hid M4
        clear hown hgrow M4 HM3
        go_wp2_with fail
        exact ⟨⟨i + 1, _, _, _, _, _, by omega, by omega, by go_num, HV2.out, HM4.out, by rw [List.length_append, List.length_singleton]; omega⟩, by simp [intOf]; omega⟩
      · have HR := Lib.hid (And.intro HV.out.next MV.out.next)
        clear hp MV HV HN HBV x0 x1 x2 x3
        go_wp2_with fail
        exact ⟨⟨i + 1, _, _, _, _, _, by omega, by omega, by go_num, HR.out.1, HR.out.2, by omega⟩, by simp [intOf]; omega⟩
    have hdb : (d == 0) = false := by simp [hd]
    obtain ⟨At, ct, rfl, hL⟩ := owns_intl MV.out.row
    by_cases hT0 : T.length = 0
    · obtain rfl : T = [] := List.length_eq_zero_iff.1 hT0
      obtain ⟨n, hn⟩ := lf_of S
      have hag := hv.age n
      have hp := put_any MV.out.tab hn (by omega) xo
      have HN := Lib.hid hn
      have HV := Lib.hid hv
      clear hn hag hv
      go_upto_region 9 with fail
      go_wp2_with fail
      (with_reducible refine hp.mono ?_)
      rintro e w2 (⟨hn64, rfl, t2, k2⟩ | ⟨hn64, rfl, rfl⟩)
      · have hfree := HN.out.2.2 hn64
        have hfresh := HV.out.fresh hn64 hfree
        have HV2 := Lib.hid (HV.out.put hn64 hfree xo)
        have hage := HV.out.age n
        have M2 := MV.out.withTab O.out k2 t2
        have hb2 := HBV.out.keep k2 (by simp; have := O.out.gp; have := O.out.pq; have := O.out.qB; have := HBV.out.lt; omega)
        have z2 : w2.cell? ⟨v0, 2, none⟩ = some (.int .i64 xo) := hb2.cell 2
        obtain ⟨sz, hmis⟩ := M2.mis
        generalize hH : ((S n).a : Int) * 64 + n = H at *
        have hHr : 0 ≤ H ∧ H ≤ 20000 := by omega
        have HM2 := Lib.hid M2
        have HMI := Lib.hid hmis
        clear hp t2 k2 M2 hb2 hmis hage hH MV HV HN x0 x1 x2 x3 HBV
        go_wp2_with (first | (at_lookup; refine wpList_imap_ok rfl _ _ rfl p i _ _ _ rfl HMI.out H rfl (WalkArith.wf_i64 (by omega)) (isC H) rfl false hfresh ?_) | (at_mapUpdate; refine wpList_imap_put rfl _ _ _ rfl p i _ _ _ rfl HMI.out (by omega) H xo rfl rfl (WalkArith.wf_i64 (by omega)) (WalkArith.wf_i64 (by omega)) ?_))
        intro w3 hm3 k3
        have M3 := (HM2.out.withIs O.out k3 hm3).keep0 (Keep.alloc w3 (.cells #[.int .i64 H] 3))
        have hN1 := one_new6 w3 (.int .i64 H) 3
        have HM3 := Lib.hid (And.intro M3 hN1)
        have hle3 := (HM2.out.withIs O.out k3 hm3).le
        obtain ⟨ii, hii, hz0, hz1, hz2⟩ := info_of intparts
        clear hm3 k3 HM2 HMI M3 hN1 z2
        go_wp2_with (at_builtin; refine wpList_append_own_at _ rfl (.tmp 61) (.tmp 63) 30 rfl B 3 ii (.int .i64 0) 1 8 Try.underlying30 hii hz0 hz1 hz2 rfl (by omega) _ 0 [] rfl HM3.out.1.row ⟨w3.heap.size, 0, none⟩ 1 1 [.int .i64 H] rfl rfl HM3.out.2 ?c3 ?c4 ?c5 ?c6 ?_)
        case c3 => first | rfl | (intro z hz; simp at hz; subst hz; rfl)
        case c4 => unfold maxLen; omega
        case c5 => omega
        case c6 => first | omega | (simp; omega)
        intro v' w4 hown hgrow _ _
        have M4 := HM3.out.1.withRow (v' := v') (T' := [] ++ [H]) O.out (by rw [List.map_append, List.length_append]; exact hown) hgrow
        have HM4 := Lib.hid M4
        clear hown hgrow M4 HM3
        go_wp2_with fail
        exact ⟨⟨i + 1, _, _, _, _, _, by omega, by omega, by go_num, HV2.out, HM4.out, by rw [List.length_append, List.length_singleton]; omega⟩, by simp [intOf]; omega⟩
      · have HR := Lib.hid (And.intro HV.out.next MV.out.next)
        clear hp MV HV HN HBV x0 x1 x2 x3
        go_wp2_with fail
        exact ⟨⟨i + 1, _, _, _, _, _, by omega, by omega, by go_num, HR.out.1, HR.out.2, by omega⟩, by simp [intOf]; omega⟩
    obtain ⟨tl, htl⟩ : ∃ tl, T.length = tl := ⟨_, rfl⟩
    obtain ⟨u, P, e1, e2, e3, e4, e5, e6⟩ := mod_num h (tl : Int) (by omega) (by omega)
    have e7 : IntKind.u64.wrap (tl : Int) = tl := by rw [IntKind.wrap_u64]; omega
    obtain ⟨bt, ot, hAt, hbt, hct⟩ := hL.cells (by omega)
    cases hAt
    have ctp := hct P (by omega)
    have hmem : T.getD P 0 ∈ T := by
      rw [List.getD_eq_getElem?_getD, List.getElem?_eq_getElem (by omega)]
      exact List.getElem_mem _
    have hHH := hv.told _ hmem
    generalize T.getD P 0 = H at *
    have hHr := hv.small (by omega) hHH
    obtain ⟨hq0, sz, hmgo⟩ := MV.out.mgo
    have HMG := Lib.hid hmgo
    rw [htl]
    rw [htl] at hT0
    have htz : ¬ (tl : Int) = 0 := by omega
    have HTL := Lib.hid htl
    clear hL hct hmem hmgo htl hbt
    by_cases hgo : goC H = 1
    · have hmiss := hv.gone hHH hgo
      have hge := get_no MV.out.tab hmiss (by omega)
      have hdr := drop_no MV.out.tab hmiss (by omega)
      have HR := Lib.hid (And.intro hv.next MV.out.next)
      clear hmiss hv
      go_wp2_with fail
      (with_reducible refine hge.mono ?_)
      rintro e w2 ⟨rfl, rfl⟩
      clear hge
      go_wp2_with (at_lookup; refine wpList_imap_look rfl _ _ rfl q i _ _ _ rfl HMG.out H rfl (WalkArith.wf_i64 (by omega)) 1 hgo ?_)
      (with_reducible refine hdr.mono ?_)
      rintro e w3 ⟨rfl, rfl⟩
      clear hdr
      go_wp2_with fail
      rw [← HTL.out]
      exact ⟨⟨i + 1, _, _, _, _, _, by omega, by omega, by go_num, HR.out.1, HR.out.2, by omega⟩, by simp [intOf]; omega⟩
    · obtain ⟨k, hhit, hko⟩ := hv.hit H hHH hgo
      have hge := get_yes MV.out.tab hhit (by omega)
      rw [hko] at hge
      have hdr := drop_yes MV.out.tab hhit (by omega)
      obtain ⟨gv, hgv⟩ : ∃ gv, goC H = gv := ⟨_, rfl⟩
      have hg1 : ¬ gv = 1 := by rw [← hgv]; exact hgo
      obtain ⟨sz', hmis⟩ := MV.out.mis
      obtain ⟨iv, hiv⟩ : ∃ iv, isC H = iv := ⟨_, rfl⟩
      rw [hiv] at hge
      have hr1 := imap_run HMG.out (WalkArith.wf_i64 (by omega)) hgv
      have hr2 := imap_run hmis (WalkArith.wf_i64 (by omega)) hiv
      have HR := Lib.hid (And.intro hv.next MV.out.next)
      have HD := Lib.hid (hv.drop hHH hhit)
      clear hv hhit hko hgo hmis
      have HGV := Lib.hid hgv
      have HIV := Lib.hid hiv
      clear hgv hiv
      go_wp2_with fail
      (with_reducible refine hge.mono ?_)
      rintro e w2 ⟨rfl, rfl⟩
      clear hge
      by_cases hd2 : d = 2
      · subst hd2
        clear hd hdb
        go_wp2_with fail
        (with_reducible refine hdr.mono ?_)
        rintro e w3 ⟨rfl, t3, k3⟩
        have M3 := MV.out.withTab O.out k3 t3
        have HM3 := Lib.hid M3
        obtain ⟨hq1, sz1, hmg1⟩ := M3.mgo
        have HMG1 := Lib.hid hmg1
        clear hdr t3 k3 M3 hmg1 x0 x1 x2 x3
        go_wp2_with (at_mapUpdate; refine wpList_imap_put rfl _ _ _ rfl q i _ _ _ rfl HMG1.out (by omega) H 1 rfl rfl (WalkArith.wf_i64 (by omega)) (WalkArith.wf_i64 (by omega)) ?_)
        intro w4 hm4 k4
        have HM4 := Lib.hid (HM3.out.withGo O.out k4 hm4)
        clear hm4 k4
        go_wp2_with fail
        rw [← HTL.out]
        exact ⟨⟨i + 1, _, _, _, _, _, by omega, by omega, by go_num, HD.out, HM4.out, by omega⟩, by simp [intOf]; omega⟩
      · go_wp2_with fail
        rw [← HTL.out]
        exact ⟨⟨i + 1, _, _, _, _, _, by omega, by omega, by go_num, HR.out.1, HR.out.2, by omega⟩, by simp [intOf]; omega⟩
end Go.Proofs.Ytejepiobdkbgpaa
