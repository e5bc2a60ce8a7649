/-
  LayoutBack's walk. No conditions but what came in.
-/
import Derived.Test.YtihfejbkojhkaaaBkm
import Derived.Test.YtihfejbkojhkaaaLawk
import Derived.Deep.DeepCutAuto
namespace Go.Proofs.Ytihfejbkojhkaaa
open Go.RowKit Go.Flo Go.Bit
set_option maxRecDepth 100000

/-- What Parse tells of the words. -/
def BkP (C : Cf) (m : Nat → Nat) (f : Nat → Nat → Int) (V : World) (e : Ending) (w' : World) : Prop :=
  ∃ A2 cap2, e = .returned (.tuple #[.agg #[.slice A2 C.n cap2, .int .i64 C.b0, .int .i64 C.b1, .int .i64 C.b2, .int .i64 C.b3, .int .i64 C.r, .int .i64 C.wk, .int .i64 C.lg], .int .i64 0]) ∧ KRow w' A2 C.n cap2 (fun i => pm (bckW C m f (9 + i))) (fun i => pf (bckW C m f (9 + i))) ∧ Keep [] V w'
theorem bk_parse {C : Cf} {m : Nat → Nat} {f : Nat → Nat → Int} (ok : C.Ok) (hk : MayKs C.n m f) (V : World) (g c : Nat) (h : Row V 51 g (9 + C.n + 2) c (bckV C m f)) :
    Calls Try.prog 33 #[.slice (some ⟨g, 0, none⟩) (9 + C.n + 2) c] V (BkP C m f V) := by
  have hw : Wrd V (some ⟨g, 0, none⟩) (9 + C.n + 2) c (bckW C m f) := Wrd.row h (bckW_lt ok hk)
  refine (parse_any V _ _ c _ hw).mono ?_
  rintro e w' (⟨_, A2, cap2, rfl, hK, k⟩ | ⟨hP, _⟩)
  · have e : ∀ j, j < 9 → bckW C m f j = supW C m f j := fun j hj => bckW_low (by omega)
    rw [e 8 (by omega)] at hK
    refine ⟨A2, cap2, ?_, hK, k⟩
    rw [e 8 (by omega), e 4 (by omega), e 5 (by omega), e 6 (by omega), e 7 (by omega), e 1 (by omega), e 2 (by omega), e 3 (by omega)]
    rfl
  · exact absurd (bck_ok ok hk) hP
section
variable {w : World} {g : Nat} {C : Cf} {m : Nat → Nat} {f : Nat → Nat → Int} (h : Lyt w g C m f)
include h
theorem root0 (ok : C.Ok) : Calls Try.prog 23 #[.pointer (some ⟨g, 0, none⟩), .int .i64 0] w fun e w' => e = .returned (.int .i64 C.roots) ∧ w = w' :=
  (root_yes h ok 0 ok.r1).mono fun _ _ ⟨a, b⟩ => ⟨a.trans (ret_i64 (by omega)), b⟩
theorem bits0 (ok : C.Ok) : Calls Try.prog 31 #[.pointer (some ⟨g, 0, none⟩), .int .i64 0] w fun e w' => e = .returned (.int .i64 C.bits) ∧ w = w' :=
  (bits_yes h ok 0 ok.all).mono fun _ _ ⟨a, b⟩ => ⟨a.trans (ret_i64 (by omega)), b⟩
theorem at0 (ok : C.Ok) : Calls Try.prog 29 #[.pointer (some ⟨g, 0, none⟩), .int .i64 0] w fun e w' => e = .returned (.int .i64 C.s0) ∧ Dr w w' :=
  (at_yes h ok 0 ok.all).mono fun _ _ ⟨a, b⟩ => ⟨a.trans (ret_i64 (by rw [at_zero ok])), b⟩
theorem bitsX (ok : C.Ok) (x : Int) (b v : Nat) (hx : x = b) (hb : b < C.all) (hv : C.bits + b / 64 = v) : Calls Try.prog 31 #[.pointer (some ⟨g, 0, none⟩), .int .i64 x] w fun e w' => e = .returned (.int .i64 v) ∧ w = w' := by
  subst hx hv
  exact bits_yes h ok b hb
theorem atX (ok : C.Ok) (x : Int) (b v : Nat) (hx : x = b) (hb : b < C.all) (hv : C.at_ b = v) : Calls Try.prog 29 #[.pointer (some ⟨g, 0, none⟩), .int .i64 x] w fun e w' => e = .returned (.int .i64 v) ∧ Dr w w' := by
  subst hx hv
  exact at_yes h ok b hb
theorem sizeX (x : Int) (b v : Nat) (hx : x = b) (hb : b < C.all) (hv : szOf C b = v) : Calls Try.prog 28 #[.pointer (some ⟨g, 0, none⟩), .int .i64 x] w fun e w' => e = .returned (.int .i64 v) ∧ w = w' := by
  subst hx hv
  exact size_yes h b hb
theorem classX (x : Int) (b v : Nat) (hx : x = b) (hb : b < C.all) (hv : C.cls b = v) : Calls Try.prog 27 #[.pointer (some ⟨g, 0, none⟩), .int .i64 x] w fun e w' => e = .returned (.int .i64 v) ∧ w = w' := by
  subst hx hv
  exact class_yes h b hb
theorem rootX (ok : C.Ok) (x : Int) (b v : Nat) (hx : x = b) (hb : b < C.r) (hv : C.roots + b = v) : Calls Try.prog 23 #[.pointer (some ⟨g, 0, none⟩), .int .i64 x] w fun e w' => e = .returned (.int .i64 v) ∧ w = w' := by
  subst hx hv
  exact root_yes h ok b hb
theorem weakX (ok : C.Ok) (x : Int) (b v : Nat) (hx : x = b) (hb : b < C.wk) (hv : C.roots + C.r + b = v) : Calls Try.prog 24 #[.pointer (some ⟨g, 0, none⟩), .int .i64 x] w fun e w' => e = .returned (.int .i64 v) ∧ Dr w w' := by
  subst hx hv
  exact weak_yes h ok b hb
end

set_option maxHeartbeats 4000000 in
theorem walk_back (A : Option Addr) (n cap : Nat) (m : Nat → Nat) (f : Nat → Nat → Int) (b0 b1 b2 b3 r wk lg : Int) (a1 a2 : Int) (w : World) (hlg : -9223372036854775808 ≤ lg ∧ lg ≤ 9223372036854775807) (h : KRow w A n cap m f) :
    Calls Try.prog 5 #[.agg #[.slice A n cap, .int .i64 b0, .int .i64 b1, .int .i64 b2, .int .i64 b3, .int .i64 r, .int .i64 wk, .int .i64 lg], .int .i64 a1, .int .i64 a2] w fun e w' => e = .returned (.bool true) ∧ Keep [] w w' := by
  have hb := Blk.new w 25 #[.slice A n cap, .int .i64 b0, .int .i64 b1, .int .i64 b2, .int .i64 b3, .int .i64 r, .int .i64 wk, .int .i64 lg]
  have k1 : Keep [] w (w.alloc (.cells #[.slice A n cap, .int .i64 b0, .int .i64 b1, .int .i64 b2, .int .i64 b3, .int .i64 r, .int .i64 wk, .int .i64 lg] 25)) := Keep.alloc _ _
  have h1 := light_any _ A n cap m f b0 b1 b2 b3 r wk lg (h.keep k1)
  have hA := awake6_any
  by_cases c1 : Light n m
  case neg =>
    rw [show decide (Light n m) = false from decide_eq_false c1] at h1
    go_enter Try.func5, Try.ntmps5
    go_wp2_with fail
    (with_reducible refine h1.mono ?_)
    rintro e w1 ⟨rfl, k2⟩
    go_wp2_with fail
    (with_reducible refine (hA _).mono ?_)
    rintro e w2 ⟨rfl, k3⟩
    go_wp2
    go_ret
    exact ⟨rfl, (k1.trans k2).trans k3⟩
  rw [show decide (Light n m) = true from decide_eq_true c1] at h1
  by_cases hM : MayC n m f b0 b1 b2 b3 r wk lg
  case neg =>
    have h3 := fun W (hk : Keep [] w W) => new_no W A n cap m f b0 b1 b2 b3 r wk lg hlg (h.keep hk) hM
    have H3 := Lib.hid h3
    clear h3
    go_enter Try.func5, Try.ntmps5
    go_wp2_with fail
    (with_reducible refine h1.mono ?_)
    rintro e w1 ⟨rfl, k2⟩
    have hb1 := hb.keep k2 (by simp)
    have q0 := (hb1.cell 0).trans (show _ = some (Value.slice A n cap) from rfl)
    have q1 := (hb1.cell 1).trans (show _ = some (Value.int .i64 b0) from rfl)
    have q2 := (hb1.cell 2).trans (show _ = some (Value.int .i64 b1) from rfl)
    have q3 := (hb1.cell 3).trans (show _ = some (Value.int .i64 b2) from rfl)
    have q4 := (hb1.cell 4).trans (show _ = some (Value.int .i64 b3) from rfl)
    have q5 := (hb1.cell 5).trans (show _ = some (Value.int .i64 r) from rfl)
    have q6 := (hb1.cell 6).trans (show _ = some (Value.int .i64 wk) from rfl)
    have q7 := (hb1.cell 7).trans (show _ = some (Value.int .i64 lg) from rfl)
    go_wp2_with fail
    (with_reducible refine (H3.out _ (k1.trans k2)).mono ?_)
    rintro e w2 ⟨rfl, k3⟩
    go_wp2_with fail
    (with_reducible refine (hA _).mono ?_)
    rintro e w3 ⟨rfl, k4⟩
    go_wp2
    go_ret
    exact ⟨rfl, ((k1.trans k2).trans k3).trans k4⟩
  have hks := hM.1
  obtain ⟨C, ok, rfl, rfl, rfl, rfl, rfl, rfl, rfl, rfl⟩ := hM.cf
  have h3 := fun W (hk : Keep [] w W) => new_yes W A cap C m f ok hks (h.keep hk)
  have H3 := Lib.hid h3
  have HK0 := Lib.hid h
  have HKS := Lib.hid hks
  clear h3 hM hks c1 h
  go_enter Try.func5, Try.ntmps5
  go_wp2_with fail
  (with_reducible refine h1.mono ?_)
  rintro e w1 ⟨rfl, k2⟩
  have hb1 := hb.keep k2 (by simp)
  have kk1 := k1.trans k2
  clear h1 k1 k2 hb
  have q0 := (hb1.cell 0).trans (show _ = some (Value.slice A C.n cap) from rfl)
  have q1 := (hb1.cell 1).trans (show _ = some (Value.int .i64 C.b0) from rfl)
  have q2 := (hb1.cell 2).trans (show _ = some (Value.int .i64 C.b1) from rfl)
  have q3 := (hb1.cell 3).trans (show _ = some (Value.int .i64 C.b2) from rfl)
  have q4 := (hb1.cell 4).trans (show _ = some (Value.int .i64 C.b3) from rfl)
  have q5 := (hb1.cell 5).trans (show _ = some (Value.int .i64 C.r) from rfl)
  have q6 := (hb1.cell 6).trans (show _ = some (Value.int .i64 C.wk) from rfl)
  have q7 := (hb1.cell 7).trans (show _ = some (Value.int .i64 C.lg) from rfl)
  go_wp2_with fail
  (with_reducible refine (H3.out _ kk1).mono ?_)
  rintro e w2 ⟨g, rfl, hL, k3⟩
  have hb2 := hb1.keep k3 (by simp)
  have kk2 := kk1.trans k3
  clear q0 q1 q2 q3 q4 q5 q6 q7 hb1 kk1 k3 H3
  have hsup := super_l hL ok HKS.out
  unfold SupPost at hsup
  have hn9 := ok.n
  have hpr := fun (V : World) (gx cx : Nat) (hx : Row V 51 gx (9 + C.n + 2) cx (bckV C m f)) => bk_parse ok HKS.out V gx cx hx
  unfold BkP at hpr
  have HPR := Lib.hid hpr
  have OK := Lib.hid ok
  obtain ⟨iu, hiu, hz0, hz1, hz2⟩ := info_of u64parts
  clear hpr ok
  go_wp2_with fail
  (with_reducible refine hsup.mono ?_)
  rintro e w3 ⟨gs, caps, rfl, hrow, hgs, k4⟩
  have hL3 := hL.keep k4
  have hb3 := hb2.keep k4 (by simp)
  have kk3 := kk2.trans k4
  have hcap := hrow.cap_le
  have hgl := hrow.lt
  have HX := Lib.hid (And.intro hL (And.intro hb2 kk2))
  have HK4 := Lib.hid k4
  have hs2 := kk2.size
  have hsb := hb2.lt
  have HR := Lib.hid hrow
  have ka : Keep [] w3 (w3.alloc (.cells #[.int .u64 1, .int .u64 2] 51)) := Keep.alloc _ _
  have HRA := Lib.hid (hrow.keep ka (by simp))
  have hs3 := kk3.size
  have hs0 := hb3.lt
  clear hL hb2 kk2 k4 hL3 hb3 kk3 hrow hsup
  go_upto_region 7 with fail
  go_cut [10, 11] (fun s t wx => ∃ A2 cap2 gd, s = .pointer (some ⟨gd, 0, none⟩) ∧ t = .int .i64 0 ∧ Blk wx gd 25 #[.slice A2 C.n cap2, .int .i64 C.b0, .int .i64 C.b1, .int .i64 C.b2, .int .i64 C.b3, .int .i64 C.r, .int .i64 C.wk, .int .i64 C.lg] ∧ KRow wx A2 C.n cap2 (fun i => pm (bckW C m f (9 + i))) (fun i => pf (bckW C m f (9 + i))) ∧ Row wx 51 gs (9 + C.n) caps (supV C m f) ∧ Keep [gs] w3 wx)
  case first =>
    go_wp2_with (at_builtin; refine wpList_append_arg _ rfl (.tmp 35) (.tmp 36) 46 rfl 51 iu (.int .u64 0) 1 8 Try.underlying46 hiu hz0 hz1 hz2 rfl (by omega) gs 0 (9 + C.n) caps ((List.range (9 + C.n)).map (supV C m f)) rfl ?g1 ?g2 ⟨w3.heap.size, 0, none⟩ 2 2 [.int .u64 1, .int .u64 2] rfl ?g3 (two_new w3 _ _ _) ?g5 ?g6 ?g7 ?g8 ?g9 ?g10)
    case g1 => simp
    case g2 =>
      intro j u hu
      have hj : j < 9 + C.n := by
        have := (List.getElem?_eq_some_iff.1 hu).1
        simpa using this
      have hu' : supV C m f j = u := by simpa [hj] using hu
      rw [Nat.zero_add, HRA.out.cell hj, hu']
    case g3 => rfl
    case g5 => intro u hu; simp at hu; rcases hu with rfl | rfl <;> rfl
    case g6 =>
      intro hr j hj
      have hj2 : j < 2 := by simpa using hj
      rw [Nat.zero_add, Nat.mul_one]
      exact row_spare HRA.out _ (by omega)
    case g7 => unfold maxLen; omega
    case g8 => omega
    case g9 =>
      intro hr
      obtain ⟨hr1, hr2, hr3⟩ := room_row HRA.out hr
      simp only [Nat.zero_add, Nat.mul_one] at hr1 hr2 hr3
      (try simp only [Nat.zero_add, Nat.mul_one])
      have hp := HPR.out _ gs caps hr1
      have k3g : Keep [gs] w3 ((w3.alloc (.cells #[.int .u64 1, .int .u64 2] 51)).setCells gs (9 + C.n) [.int .u64 1, .int .u64 2]) := (Keep.of_nil ka).trans hr3
      generalize (w3.alloc (.cells #[.int .u64 1, .int .u64 2] 51)).setCells gs (9 + C.n) [.int .u64 1, .int .u64 2] = wv at *
      have HV := Lib.hid (And.intro hr2 k3g)
      clear hr1 hr2 hr3 k3g
      go_wp2_with fail
      (with_reducible refine hp.mono ?_)
      rintro e wp ⟨A2, cap2, rfl, hK2, k5⟩
      have kd : Keep [] wp (wp.alloc (.cells #[.slice A2 C.n cap2, .int .i64 C.b0, .int .i64 C.b1, .int .i64 C.b2, .int .i64 C.b3, .int .i64 C.r, .int .i64 C.wk, .int .i64 C.lg] 25)) := Keep.alloc _ _
      have HD := Lib.hid (And.intro (Blk.new wp 25 #[.slice A2 C.n cap2, .int .i64 C.b0, .int .i64 C.b1, .int .i64 C.b2, .int .i64 C.b3, .int .i64 C.r, .int .i64 C.wk, .int .i64 C.lg]) (And.intro (hK2.keep kd) (And.intro ((HV.out.1.keep k5 (by simp)).keep kd (by simp)) (HV.out.2.trans (Keep.of_nil (k5.trans kd))))))
      clear hK2 kd k5
      go_wp2_with fail
      go_meet
      exact ⟨A2, cap2, wp.heap.size, rfl, rfl, HD.out.1, HD.out.2.1, HD.out.2.2.1, HD.out.2.2.2⟩
    case g10 =>
      intro hfull v' wv hown hgrow
      rw [bck_list] at hown
      have kg : Keep [] (w3.alloc (.cells #[.int .u64 1, .int .u64 2] 51)) wv := Keep.grown hgrow (fun k _ e => by cases e)
      have hfin : ∃ gx cx, v' = .slice (some ⟨gx, 0, none⟩) (9 + C.n + 2) cx ∧ Row wv 51 gx (9 + C.n + 2) cx (bckV C m f) := by
        rcases hown.2 with ⟨h2, h0⟩ | ⟨gx, cx, cur, rfl, _⟩
        · omega
        · exact ⟨gx, cx, rfl, Row.of_owns hown⟩
      obtain ⟨gx, cx, rfl, hrx⟩ := hfin
      have hp := HPR.out _ gx cx hrx
      have HV := Lib.hid (And.intro (HRA.out.keep kg (by simp)) (ka.trans kg))
      clear hown hgrow hrx kg
      go_wp2_with fail
      (with_reducible refine hp.mono ?_)
      rintro e wp ⟨A2, cap2, rfl, hK2, k5⟩
      have kd : Keep [] wp (wp.alloc (.cells #[.slice A2 C.n cap2, .int .i64 C.b0, .int .i64 C.b1, .int .i64 C.b2, .int .i64 C.b3, .int .i64 C.r, .int .i64 C.wk, .int .i64 C.lg] 25)) := Keep.alloc _ _
      have HD := Lib.hid (And.intro (Blk.new wp 25 #[.slice A2 C.n cap2, .int .i64 C.b0, .int .i64 C.b1, .int .i64 C.b2, .int .i64 C.b3, .int .i64 C.r, .int .i64 C.wk, .int .i64 C.lg]) (And.intro (hK2.keep kd) (And.intro ((HV.out.1.keep k5 (by simp)).keep kd (by simp)) (Keep.of_nil (own := [gs]) (HV.out.2.trans (k5.trans kd))))))
      clear hK2 kd k5
      go_wp2_with fail
      go_meet
      exact ⟨A2, cap2, wp.heap.size, rfl, rfl, HD.out.1, HD.out.2.1, HD.out.2.2.1, HD.out.2.2.2⟩
  case rest =>
  obtain ⟨A2, cap2, gd, rfl, rfl, hD, hK2, hrs, kg⟩ := hcut
  have k2c : Keep [] w2 wc := HK4.out.since kg (by intro k hk; simp at hk; omega)
  have kkc := HX.out.2.2.trans k2c
  have hbc := HX.out.2.1.keep k2c (by simp)
  have hLc := HX.out.1.keep k2c
  have hsc := sameConfig_any wc A A2 C.n cap C.n cap2 m _ f _ C.b0 C.b1 C.b2 C.b3 C.r C.wk C.lg C.b0 C.b1 C.b2 C.b3 C.r C.wk C.lg (HK0.out.keep kkc) hK2
  rw [show decide (SameC C.n m f C.b0 C.b1 C.b2 C.b3 C.r C.wk C.lg C.n (fun i => pm (bckW C m f (9 + i))) (fun i => pf (bckW C m f (9 + i))) C.b0 C.b1 C.b2 C.b3 C.r C.wk C.lg) = true from decide_eq_true ⟨⟨rfl, rfl, rfl, rfl⟩, rfl, rfl, rfl, bck_same HKS.out⟩] at hsc
  have q0 := (hbc.cell 0).trans (show _ = some (Value.slice A C.n cap) from rfl)
  have q1 := (hbc.cell 1).trans (show _ = some (Value.int .i64 C.b0) from rfl)
  have q2 := (hbc.cell 2).trans (show _ = some (Value.int .i64 C.b1) from rfl)
  have q3 := (hbc.cell 3).trans (show _ = some (Value.int .i64 C.b2) from rfl)
  have q4 := (hbc.cell 4).trans (show _ = some (Value.int .i64 C.b3) from rfl)
  have q5 := (hbc.cell 5).trans (show _ = some (Value.int .i64 C.r) from rfl)
  have q6 := (hbc.cell 6).trans (show _ = some (Value.int .i64 C.wk) from rfl)
  have q7 := (hbc.cell 7).trans (show _ = some (Value.int .i64 C.lg) from rfl)
  have d0 := (hD.cell 0).trans (show _ = some (Value.slice A2 C.n cap2) from rfl)
  have d1 := (hD.cell 1).trans (show _ = some (Value.int .i64 C.b0) from rfl)
  have d2 := (hD.cell 2).trans (show _ = some (Value.int .i64 C.b1) from rfl)
  have d3 := (hD.cell 3).trans (show _ = some (Value.int .i64 C.b2) from rfl)
  have d4 := (hD.cell 4).trans (show _ = some (Value.int .i64 C.b3) from rfl)
  have d5 := (hD.cell 5).trans (show _ = some (Value.int .i64 C.r) from rfl)
  have d6 := (hD.cell 6).trans (show _ = some (Value.int .i64 C.wk) from rfl)
  have d7 := (hD.cell 7).trans (show _ = some (Value.int .i64 C.lg) from rfl)
  have HC := Lib.hid (And.intro hbc (And.intro hLc (And.intro hrs kkc)))
  clear hK2 hD hbc hLc hrs kg k2c kkc HX HK4 HR HRA HPR ka hcap hgl
  generalize wc = v1 at *
  go_wp2_with fail
  (with_reducible refine hsc.mono ?_)
  rintro e v2 ⟨rfl, k2⟩
  have hb5 := HC.out.1.keep k2 (by simp)
  have kk5 := HC.out.2.2.2.trans k2
  clear q0 q1 q2 q3 q4 q5 q6 q7 d0 d1 d2 d3 d4 d5 d6 d7 hsc
  have q0 := (hb5.cell 0).trans (show _ = some (Value.slice A C.n cap) from rfl)
  have q1 := (hb5.cell 1).trans (show _ = some (Value.int .i64 C.b0) from rfl)
  have q2 := (hb5.cell 2).trans (show _ = some (Value.int .i64 C.b1) from rfl)
  have q3 := (hb5.cell 3).trans (show _ = some (Value.int .i64 C.b2) from rfl)
  have q4 := (hb5.cell 4).trans (show _ = some (Value.int .i64 C.b3) from rfl)
  have q5 := (hb5.cell 5).trans (show _ = some (Value.int .i64 C.r) from rfl)
  have q6 := (hb5.cell 6).trans (show _ = some (Value.int .i64 C.wk) from rfl)
  have q7 := (hb5.cell 7).trans (show _ = some (Value.int .i64 C.lg) from rfl)
  have hrsu := rsuper_any v2 A cap C m f OK.out HKS.out (HK0.out.keep kk5)
  go_wp2_with fail
  (with_reducible refine hrsu.mono ?_)
  rintro e v3 ⟨gs2, caps2, rfl, hrow2, hgs2, k3⟩
  have k13 := k2.trans k3
  have hsw := same_words v3 gs caps gs2 caps2 (9 + C.n) (supW C m f) (by omega) (HC.out.2.2.1.keep k13 (by simp)) hrow2
  have HC3 := Lib.hid (And.intro (HC.out.1.keep k13 (by simp)) (And.intro (HC.out.2.1.keep k13) (HC.out.2.2.2.trans k13)))
  clear q0 q1 q2 q3 q4 q5 q6 q7 hb5 kk5 hrsu hrow2 k3 k2 k13 HC
  go_wp2_with fail
  (with_reducible refine hsw.mono ?_)
  rintro e v4 ⟨rfl, d4⟩
  have kd4 : Keep [] v3 v4 := Keep.dr d4
  have hL4 := HC3.out.2.1.keep kd4
  have hb4 := HC3.out.1.keep kd4 (by simp)
  have kk4 := HC3.out.2.2.trans kd4
  have hr0 := root0 hL4 OK.out
  have hrg := roots_ge C
  have hrl := OK.out.roots_le
  have hbl := blocks_l hL4
  have hal := OK.out.all_le
  have hal1 : 1 ≤ C.all := OK.out.all
  have dd1 : decide ((C.roots : Int) < 9 + (C.n : Int)) = false := by simp; omega
  have HC4 := Lib.hid (And.intro hL4 (And.intro hb4 kk4))
  clear hL4 hb4 kk4 kd4 d4 hsw HC3
  go_wp2_with fail
  (with_reducible refine hr0.mono ?_)
  rintro e w' ⟨rfl, rfl⟩
  go_wp2_with fail
  (with_reducible refine hbl.mono ?_)
  rintro e w' ⟨rfl, rfl⟩
  clear hr0 hbl
  obtain ⟨ta, hta, hma⟩ := mod_any a1 C.all (by omega) (by omega)
  obtain ⟨tb, htb, hmb⟩ := mod_any a2 C.all (by omega) (by omega)
  have hne : ¬ C.all = 0 := by omega
  go_upto_region 13 with fail
  go_cut [1, 2] (fun s t wx => s = .int .i64 (ta : Nat) ∧ t = .int .i64 (tb : Nat) ∧ Dr v4 wx)
  case first =>
    go_wp2_with fail
    go_quiet (fail)
    go_wp2_with fail
    go_meet
    exact ⟨by first | rfl | simp [hma] | rw [hma], by first | rfl | simp [hmb] | rw [hmb], Dr.drewN _ _⟩
  case rest =>
  obtain ⟨rfl, rfl, d5⟩ := hcut
  have kd5 : Keep [] v4 wc := Keep.dr d5
  have HC5 := Lib.hid (And.intro (HC4.out.1.keep kd5) (And.intro (HC4.out.2.1.keep kd5 (by simp)) (HC4.out.2.2.trans kd5)))
  clear hma hmb HC4 d5 kd5
  generalize wc = v5 at *
  go_upto_if 81 with fail
  go_cut [1, 2] (fun s t wx => ∃ x y : Nat, s = .int .i64 x ∧ t = .int .i64 y ∧ x ≤ y ∧ y < C.all ∧ wx = v5)
  case first =>
    by_cases hab : ta ≤ tb
    · have hab2 : ¬ tb < ta := by omega
      go_wp2_with fail
      go_meet
      exact ⟨ta, tb, rfl, rfl, hab, htb, rfl⟩
    · have hab2 : tb < ta := by omega
      go_wp2_with fail
      go_meet
      exact ⟨tb, ta, rfl, rfl, by omega, hta, rfl⟩
  case rest =>
  obtain ⟨x, y, rfl, rfl, hxy, hy, hwc⟩ := hcut
  subst hwc
  clear hta htb
  have hlog := log_l HC5.out.1 OK.out
  go_wp2_with fail
  (with_reducible refine hlog.mono ?_)
  rintro e v6 ⟨rfl, d6⟩
  have kd6 : Keep [] _ v6 := Keep.dr d6
  have HC6 := Lib.hid (And.intro (HC5.out.1.keep kd6) (And.intro (HC5.out.2.1.keep kd6 (by simp)) (HC5.out.2.2.trans kd6)))
  clear hlog d6 kd6 HC5
  have q5 := (HC6.out.2.1.cell 5).trans (show _ = some (Value.int .i64 C.r) from rfl)
  have q6 := (HC6.out.2.1.cell 6).trans (show _ = some (Value.int .i64 C.wk) from rfl)
  have g1 := OK.out.r
  have g2 := OK.out.r1
  have g3 := OK.out.wk
  have g4 := roots_last (C := C)
  have g5 := OK.out.bits_le
  obtain ⟨l1, hl1⟩ : ∃ v, C.roots + (C.r - 1) = v := ⟨_, rfl⟩
  have R1 := Lib.hid (fun nn => rootX (HC6.out.1.keep (Keep.drewN v6 nn)) OK.out ((C.r : Int) - 1) (C.r - 1) l1 (by omega) (by omega) hl1)
  go_upto_region 17 with fail
  go_cut [15] (fun s wx => ∃ lv : Nat, s = .int .i64 lv ∧ lv < C.bits ∧ Dr v6 wx)
  case first =>
    by_cases hw0 : C.wk = 0
    · have R2 := Lib.hid (fun nn => weak_no (HC6.out.1.keep (Keep.drewN v6 nn)) (-1) (Or.inl (by omega)))
      rw [hw0] at q6
      have t1 : (-1 : Int) < (l1 : Int) := by omega
      have t2 : ¬ (l1 : Int) < -1 := by omega
      have t3 : max (l1 : Int) (-1) = l1 := by omega
      clear hw0
      go_wp2_with fail
      go_quiet ((first | (go_at_call 23; refine quiet_same (R1.out _)) | (go_at_call 24; refine quiet_same (R2.out _))))
      go_wp2_with fail
      go_meet
      exact ⟨l1, rfl, by omega, Dr.drewN _ _⟩
    · obtain ⟨l2, hl2⟩ : ∃ v, C.roots + C.r + (C.wk - 1) = v := ⟨_, rfl⟩
      have R2 := Lib.hid (fun nn => weakX (HC6.out.1.keep (Keep.drewN v6 nn)) OK.out ((C.wk : Int) - 1) (C.wk - 1) l2 (by omega) (by omega) hl2)
      have t1 : (l1 : Int) < (l2 : Int) := by omega
      have t1n : l1 < l2 := by omega
      have t2 : ¬ (l2 : Int) < (l1 : Int) := by omega
      have t3 : max (l1 : Int) (l2 : Int) = l2 := by omega
      go_wp2_with fail
      go_quiet ((first | (go_at_call 23; refine quiet_same (R1.out _)) | (go_at_call 24; refine quiet (R2.out _))))
      go_wp2_with fail
      go_meet
      exact ⟨l2, rfl, by omega, Dr.drewN _ _⟩
  case rest =>
  obtain ⟨lv, rfl, hlv, d7⟩ := hcut
  have kd7 : Keep [] v6 wc := Keep.dr d7
  have HC7 := Lib.hid (And.intro (HC6.out.1.keep kd7) (HC6.out.2.2.trans kd7))
  clear d7 kd7 HC6 q5 q6 R1 hl1
  generalize wc = v7 at *
  have hs0e := OK.out.s0_eq
  have e1 := bits_last OK.out
  have e2 := at_last OK.out
  have e3 := OK.out.words_le
  have e4 := at_le hxy hy
  have e5 := cls_le (C := C) hxy
  have e6 := OK.out.lg1
  have e7 := OK.out.lg
  have e8 := OK.out.log_le
  have e9 : x < y → C.at_ x + szOf C x ≤ C.at_ y := fun h => at_next h hy
  have e10 := at_le (show y ≤ C.all - 1 by omega) (show C.all - 1 < C.all by omega)
  have e11 : szOf C x ≤ 16 := by rw [szOf_eq]; (repeat' split) <;> omega
  have e12 := C.cls_lt x
  have e13 := C.cls_lt y
  obtain ⟨bn, hbn⟩ : ∃ v, C.bits + (C.all - 1) / 64 = v := ⟨_, rfl⟩
  obtain ⟨an, han⟩ : ∃ v, C.at_ (C.all - 1) = v := ⟨_, rfl⟩
  obtain ⟨sn, hsn⟩ : ∃ v, szOf C (C.all - 1) = v := ⟨_, rfl⟩
  obtain ⟨ax, hax⟩ : ∃ v, C.at_ x = v := ⟨_, rfl⟩
  obtain ⟨ay, hay⟩ : ∃ v, C.at_ y = v := ⟨_, rfl⟩
  obtain ⟨sx, hsx⟩ : ∃ v, szOf C x = v := ⟨_, rfl⟩
  obtain ⟨cx, hcx⟩ : ∃ v, C.cls x = v := ⟨_, rfl⟩
  obtain ⟨cy, hcy⟩ : ∃ v, C.cls y = v := ⟨_, rfl⟩
  rw [hbn] at e1
  rw [han, hsn] at e2
  rw [hax, hay] at e4
  rw [hcx, hcy] at e5
  rw [hax, hsx, hay] at e9
  rw [hay, han] at e10
  rw [hsx] at e11
  rw [hcx] at e12
  rw [hcy] at e13
  have B0 := Lib.hid (fun W (hk : Keep [] v7 W) => bits0 (HC7.out.1.keep hk) OK.out)
  have BN := Lib.hid (fun W (hk : Keep [] v7 W) => bitsX (HC7.out.1.keep hk) OK.out ((C.all : Int) - 1) (C.all - 1) bn (by omega) (by omega) hbn)
  have A0 := Lib.hid (fun W (hk : Keep [] v7 W) => at0 (HC7.out.1.keep hk) OK.out)
  have AN := Lib.hid (fun W (hk : Keep [] v7 W) => atX (HC7.out.1.keep hk) OK.out ((C.all : Int) - 1) (C.all - 1) an (by omega) (by omega) han)
  have SN := Lib.hid (fun W (hk : Keep [] v7 W) => sizeX (HC7.out.1.keep hk) ((C.all : Int) - 1) (C.all - 1) sn (by omega) (by omega) hsn)
  have WD := Lib.hid (fun W (hk : Keep [] v7 W) => words_l (HC7.out.1.keep hk))
  have AX := Lib.hid (fun W (hk : Keep [] v7 W) => atX (HC7.out.1.keep hk) OK.out (x : Int) x ax rfl (by omega) hax)
  have AY := Lib.hid (fun W (hk : Keep [] v7 W) => atX (HC7.out.1.keep hk) OK.out (y : Int) y ay rfl (by omega) hay)
  have SX := Lib.hid (fun W (hk : Keep [] v7 W) => sizeX (HC7.out.1.keep hk) (x : Int) x sx rfl (by omega) hsx)
  have CX := Lib.hid (fun W (hk : Keep [] v7 W) => classX (HC7.out.1.keep hk) (x : Int) x cx rfl (by omega) hcx)
  have CY := Lib.hid (fun W (hk : Keep [] v7 W) => classX (HC7.out.1.keep hk) (y : Int) y cy rfl (by omega) hcy)
  have f1 : decide ((C.bits : Int) ≤ (lv : Int)) = false := by simp; omega
  have f1n : ¬ C.bits ≤ lv := by omega
  have f2 : decide ((C.log : Int) ≤ (bn : Int)) = false := by simp; omega
  have f2n : ¬ C.log ≤ bn := by omega
  have f3 : decide ((C.log : Int) + (C.lg : Int) ≤ (C.log : Int)) = false := by simp; omega
  have f4 : decide ((C.s0 : Int) < (C.log : Int) + (C.lg : Int)) = false := by simp; omega
  have f5 : decide ((C.words : Int) < (an : Int) + (sn : Int)) = false := by simp; omega
  have f6 : decide ((ay : Int) < (ax : Int)) = false := by simp; omega
  have f6n : ¬ ay < ax := by omega
  have f9 : decide ((cy : Int) < (cx : Int)) = false := by simp; omega
  have f9n : ¬ cy < cx := by omega
  have HEE := Lib.hid (And.intro hs0e e9)
  clear hbn han hsn hax hay hsx hcx hcy hs0e e9 hrg hrl dd1
  go_upto_region 18 with fail
  go_cut [172] (fun s wx => s = .bool false ∧ Keep [] v7 wx)
  case first =>
    by_cases hlt : x < y
    · have f7 : decide ((x : Int) < (y : Int)) = true := by simp; omega
      have f8 : decide ((ay : Int) < (ax : Int) + (sx : Int)) = false := by have := HEE.out.2 hlt; simp; omega
      go_wp2_with fail
      (with_reducible refine (B0.out _ (Keep.refl _ _)).mono ?_)
      rintro e w' ⟨rfl, rfl⟩
      go_wp2_with fail
      (with_reducible refine (BN.out _ (Keep.refl _ _)).mono ?_)
      rintro e w' ⟨rfl, rfl⟩
      go_wp2_with fail
      (with_reducible refine (A0.out _ (Keep.refl _ _)).mono ?_)
      rintro e p1 ⟨rfl, d1⟩
      have z1 : Keep [] v7 p1 := (Keep.refl [] v7).trans (Keep.dr d1)
      go_wp2_with fail
      (with_reducible refine (AN.out _ z1).mono ?_)
      rintro e p2 ⟨rfl, d2⟩
      have z2 : Keep [] v7 p2 := z1.trans (Keep.dr d2)
      go_wp2_with fail
      (with_reducible refine (SN.out _ z2).mono ?_)
      rintro e w' ⟨rfl, rfl⟩
      go_wp2_with fail
      (with_reducible refine (WD.out _ z2).mono ?_)
      rintro e w' ⟨rfl, rfl⟩
      go_wp2_with fail
      (with_reducible refine (AX.out _ z2).mono ?_)
      rintro e p3 ⟨rfl, d3⟩
      have z3 : Keep [] v7 p3 := z2.trans (Keep.dr d3)
      go_wp2_with fail
      (with_reducible refine (AY.out _ z3).mono ?_)
      rintro e p4 ⟨rfl, d4⟩
      have z4 : Keep [] v7 p4 := z3.trans (Keep.dr d4)
      go_wp2_with fail
      (with_reducible refine (AX.out _ z4).mono ?_)
      rintro e p5 ⟨rfl, d5⟩
      have z5 : Keep [] v7 p5 := z4.trans (Keep.dr d5)
      go_wp2_with fail
      (with_reducible refine (SX.out _ z5).mono ?_)
      rintro e w' ⟨rfl, rfl⟩
      go_wp2_with fail
      (with_reducible refine (AY.out _ z5).mono ?_)
      rintro e p6 ⟨rfl, d6⟩
      have z6 : Keep [] v7 p6 := z5.trans (Keep.dr d6)
      go_wp2_with fail
      (with_reducible refine (CX.out _ z6).mono ?_)
      rintro e w' ⟨rfl, rfl⟩
      go_wp2_with fail
      (with_reducible refine (CY.out _ z6).mono ?_)
      rintro e w' ⟨rfl, rfl⟩
      go_wp2_with fail
      go_meet
      exact ⟨rfl, z6⟩
    · have f7 : decide ((x : Int) < (y : Int)) = false := by simp; omega
      go_wp2_with fail
      (with_reducible refine (B0.out _ (Keep.refl _ _)).mono ?_)
      rintro e w' ⟨rfl, rfl⟩
      go_wp2_with fail
      (with_reducible refine (BN.out _ (Keep.refl _ _)).mono ?_)
      rintro e w' ⟨rfl, rfl⟩
      go_wp2_with fail
      (with_reducible refine (A0.out _ (Keep.refl _ _)).mono ?_)
      rintro e p1 ⟨rfl, d1⟩
      have z1 : Keep [] v7 p1 := (Keep.refl [] v7).trans (Keep.dr d1)
      go_wp2_with fail
      (with_reducible refine (AN.out _ z1).mono ?_)
      rintro e p2 ⟨rfl, d2⟩
      have z2 : Keep [] v7 p2 := z1.trans (Keep.dr d2)
      go_wp2_with fail
      (with_reducible refine (SN.out _ z2).mono ?_)
      rintro e w' ⟨rfl, rfl⟩
      go_wp2_with fail
      (with_reducible refine (WD.out _ z2).mono ?_)
      rintro e w' ⟨rfl, rfl⟩
      go_wp2_with fail
      (with_reducible refine (AX.out _ z2).mono ?_)
      rintro e p3 ⟨rfl, d3⟩
      have z3 : Keep [] v7 p3 := z2.trans (Keep.dr d3)
      go_wp2_with fail
      (with_reducible refine (AY.out _ z3).mono ?_)
      rintro e p4 ⟨rfl, d4⟩
      have z4 : Keep [] v7 p4 := z3.trans (Keep.dr d4)
      go_wp2_with fail
      (with_reducible refine (CX.out _ z4).mono ?_)
      rintro e w' ⟨rfl, rfl⟩
      go_wp2_with fail
      (with_reducible refine (CY.out _ z4).mono ?_)
      rintro e w' ⟨rfl, rfl⟩
      go_wp2_with fail
      go_meet
      exact ⟨rfl, z4⟩
  case rest =>
  obtain ⟨rfl, kd8⟩ := hcut
  have hL8 := HC7.out.1.keep kd8
  have kk8 := HC7.out.2.trans kd8
  have hw8 := words_l hL8
  have ha8 := at0 hL8 OK.out
  have m1 : (C.words : Int) % 8 = 0 := by have := words_mod C; omega
  have m2 : (C.log : Int) % 8 = 0 := by have := log_mod C; omega
  have m3 : (C.s0 : Int) % 8 = 0 := by have := s0_mod C; omega
  have hsl := OK.out.s0_le
  clear B0 BN A0 AN SN WD AX AY SX CX CY f1 f1n f2 f2n f3 f4 f5 f6 f6n f9 f9n HEE HC7 kd8 hL8
  go_wp2_with fail
  (with_reducible refine hw8.mono ?_)
  rintro e w' ⟨rfl, rfl⟩
  go_wp2_with fail
  (with_reducible refine ha8.mono ?_)
  rintro e v9 ⟨rfl, d9⟩
  have kd9 : Keep [] _ v9 := Keep.dr d9
  go_wp2_with fail
  (with_reducible refine (hA _).mono ?_)
  rintro e v10 ⟨rfl, k10⟩
  go_wp2
  go_ret
  exact ⟨rfl, (kk8.trans kd9).trans k10⟩
end Go.Proofs.Ytihfejbkojhkaaa
