/-
  The program's package graph: Alike. No conditions but what is in memory.
-/
import Derived.Test.YtigclopkoolocaaDoorGd10
import Derived.Deep.DeepCutAuto
namespace Go.Flo
open Go.RowKit Go.Bit

/-- Blocks that hold no number. -/
def NoInt (w : World) (own : List Nat) : Prop := ∀ x ∈ own, ∀ o k n, w.cell? ⟨x, o, none⟩ ≠ some (.int k n)
theorem intl_away {w w' : World} {A : Option Addr} {c : Nat} {l : List Int} {own : List Nat} (h : IntL w A c l) (hk : Keep own w w') (ho : NoInt w own) : IntL w' A c l :=
  ⟨h.nc, Ints.nil h, h.cap, fun h0 => by
    obtain ⟨b, o, h1, h3, h4⟩ := h.cells h0
    have hb : b ∉ own := fun hm => ho b hm _ _ _ (h4 0 h0)
    exact ⟨b, o, h1, Nat.lt_of_lt_of_le h3 hk.size, fun j hj => (hk.cell (p := ⟨b, _, none⟩) h3 hb).trans (h4 j hj)⟩⟩
theorem vals_away {w w' : World} {A : Option Addr} {n cap : Nat} {F : Nat → Val} {own : List Nat} (h : Vals w A n cap F) (hk : Keep own w w') (ho : NoInt w own) : Vals w' A n cap F :=
  ⟨h.nc, h.cap, fun h0 => by
    obtain ⟨b, o, h1, h3, h4⟩ := h.cells h0
    have hb : b ∉ own := fun hm => ho b hm _ _ _ (h4 0 h0).1
    refine ⟨b, o, h1, Nat.lt_of_lt_of_le h3 hk.size, fun j hj => ?_⟩
    obtain ⟨e0, e1, e2, e3, e4⟩ := h4 j hj
    exact ⟨(hk.cell (p := ⟨b, _, none⟩) h3 hb).trans e0, (hk.cell (p := ⟨b, _, none⟩) h3 hb).trans e1, (hk.cell (p := ⟨b, _, none⟩) h3 hb).trans e2, (hk.cell (p := ⟨b, _, none⟩) h3 hb).trans e3, (hk.cell (p := ⟨b, _, none⟩) h3 hb).trans e4⟩⟩
theorem NodL.away {w w' : World} {A : Option Addr} {cap : Nat} {L : List Nod} {own : List Nat} (h : NodL w A cap L) (hk : Keep own w w') (ho : NoInt w own) : NodL w' A cap L :=
  ⟨h.nc, h.cap, fun h0 => by
    obtain ⟨b, o, h1, h3, h4⟩ := h.cells h0
    have hb : b ∉ own := fun hm => by
      obtain ⟨A', c', e1, _⟩ := h4 0 h0
      exact ho b hm _ _ _ e1
    refine ⟨b, o, h1, Nat.lt_of_lt_of_le h3 hk.size, fun j hj => ?_⟩
    obtain ⟨A', c', e1, e2, e3⟩ := h4 j hj
    exact ⟨A', c', (hk.cell (p := ⟨b, _, none⟩) h3 hb).trans e1, (hk.cell (p := ⟨b, _, none⟩) h3 hb).trans e2, vals_away e3 hk ho⟩⟩
theorem GIn.away {w w' : World} {A0 A1 A2 : Option Addr} {c0 c1 c2 : Nat} {g : Gr} {own : List Nat} (h : GIn w A0 A1 A2 c0 c1 c2 g) (hk : Keep own w w') (ho : NoInt w own) : GIn w' A0 A1 A2 c0 c1 c2 g :=
  ⟨h.nodes.away hk ho, intl_away h.roots hk ho, intl_away h.weaks hk ho⟩
theorem noint3 {w : World} {b : Nat} {t : TypeId} {A0 A1 A2 : Option Addr} {n0 n1 n2 c0 c1 c2 : Nat} (h : Blk w b t #[.slice A0 n0 c0, .slice A1 n1 c1, .slice A2 n2 c2]) (o : Nat) (k : IntKind) (n : Int) : w.cell? ⟨b, o, none⟩ ≠ some (.int k n) := by
  rw [h.cell]
  match o with
  | 0 => simp
  | 1 => simp
  | 2 => simp
  | o + 3 => simp
end Go.Flo
namespace Go.Proofs.YtigclopkoolocaaDoor
open Go.RowKit Go.Flo Go.Bit
set_option maxRecDepth 100000

set_option maxHeartbeats 20000000 in
theorem alike_any (w : World) (A0 A1 A2 B0 B1 B2 : Option Addr) (c0 c1 c2 d0 d1 d2 : Nat) (a b : Gr) (h : GIn w A0 A1 A2 c0 c1 c2 a) (h' : GIn w B0 B1 B2 d0 d1 d2 b) (hs : Slim a) (hs' : Slim b) :
    Calls Tryd.prog 13 #[.agg #[.slice A0 a.nodes.length c0, .slice A1 a.roots.length c1, .slice A2 a.weaks.length c2], .agg #[.slice B0 b.nodes.length d0, .slice B1 b.roots.length d1, .slice B2 b.weaks.length d2]] w fun e w' => e = .returned (.bool (decide (AlikeG a b))) ∧ Keep [] w w' := by
  have M1 := Lib.hid (fun W (hk : Keep [] w W) => mayg_any W A0 A1 A2 c0 c1 c2 a (h.keep hk))
  have M2 := Lib.hid (fun W (hk : Keep [] w W) => mayg_any W B0 B1 B2 d0 d1 d2 b (h'.keep hk))
  have t1 := fun W (hk : Keep [] w W) => trim_any W A0 A1 A2 c0 c1 c2 a (h.keep hk) hs
  have t2 := fun W (hk : Keep [] w W) => trim_any W B0 B1 B2 d0 d1 d2 b (h'.keep hk) hs'
  unfold GrPost at t1 t2
  have HA := Lib.hid (show AlikeG a b ↔ MayG a ∧ MayG b ∧ trimE a = trimE b from by
    unfold AlikeG trimE
    constructor
    · rintro ⟨x, y, z⟩
      rw [if_pos x, if_pos y]
      exact ⟨x, y, z⟩
    · rintro ⟨x, y, z⟩
      rw [if_pos x, if_pos y] at z
      exact ⟨x, y, z⟩)
  clear h h' hs hs'
  generalize a.nodes.length = n0 at *
  generalize a.roots.length = n1 at *
  generalize a.weaks.length = n2 at *
  generalize b.nodes.length = q0 at *
  generalize b.roots.length = q1 at *
  generalize b.weaks.length = q2 at *
  generalize trimE a = ta at *
  generalize trimE b = tb at *
  have ka : Keep [] w (w.alloc (.cells #[.slice A0 n0 c0, .slice A1 n1 c1, .slice A2 n2 c2] 25)) := Keep.alloc _ _
  have hba := Blk.new w 25 #[.slice A0 n0 c0, .slice A1 n1 c1, .slice A2 n2 c2]
  obtain ⟨wa, hwa⟩ : ∃ wa, wa = w.alloc (.cells #[.slice A0 n0 c0, .slice A1 n1 c1, .slice A2 n2 c2] 25) := ⟨_, rfl⟩
  have hza : wa.heap.size = w.heap.size + 1 := by rw [hwa]; simp
  have kb : Keep [] wa (wa.alloc (.cells #[.slice B0 q0 d0, .slice B1 q1 d1, .slice B2 q2 d2] 25)) := Keep.alloc _ _
  have hbb := Blk.new wa 25 #[.slice B0 q0 d0, .slice B1 q1 d1, .slice B2 q2 d2]
  obtain ⟨wb, hwb⟩ : ∃ wb, wb = wa.alloc (.cells #[.slice B0 q0 d0, .slice B1 q1 d1, .slice B2 q2 d2] 25) := ⟨_, rfl⟩
  rw [← hwa] at ka hba
  rw [← hwb] at kb hbb
  rw [hza] at hbb
  rw [hwa] at hwb
  have hba := hba.keep kb (by simp)
  have hkk := ka.trans kb
  have HBB := Lib.hid (And.intro hba (And.intro hbb hkk))
  have hf := fun W (hk : Keep [] wb W) => And.intro (((hba.keep hk (by simp)).cell 0).trans (show _ = some (Value.slice A0 n0 c0) from rfl)) (And.intro (((hba.keep hk (by simp)).cell 1).trans (show _ = some (Value.slice A1 n1 c1) from rfl)) (And.intro (((hba.keep hk (by simp)).cell 2).trans (show _ = some (Value.slice A2 n2 c2) from rfl))
    (And.intro (((hbb.keep hk (by simp)).cell 0).trans (show _ = some (Value.slice B0 q0 d0) from rfl)) (And.intro (((hbb.keep hk (by simp)).cell 1).trans (show _ = some (Value.slice B1 q1 d1) from rfl)) (And.intro (((hbb.keep hk (by simp)).cell 2).trans (show _ = some (Value.slice B2 q2 d2) from rfl))
    (And.intro ((hba.keep hk (by simp)).frozen 0) (And.intro ((hba.keep hk (by simp)).frozen 1) (And.intro ((hba.keep hk (by simp)).frozen 2) (And.intro ((hbb.keep hk (by simp)).frozen 0) (And.intro ((hbb.keep hk (by simp)).frozen 1) ((hbb.keep hk (by simp)).frozen 2)))))))))))
  have HF := Lib.hid hf
  have T1 := Lib.hid (fun W (hk : Keep [] wb W) => t1 W (hkk.trans hk))
  have T2 := Lib.hid (fun W (hk : Keep [] wb W) => t2 W (hkk.trans hk))
  have hm1 := M1.out wb hkk
  obtain ⟨f0, f1, f2, f3, f4, f5, e0, e1, e2, e3, e4, e5⟩ := hf wb (Keep.refl _ _)
  clear t1 t2 hf hba hbb ka kb hza hwa hkk
  by_cases ha : MayG a
  case neg =>
    have HD := Lib.hid (show decide (AlikeG a b) = false from decide_eq_false (fun e => ha (HA.out.1 e).1))
    rw [decide_eq_false ha] at hm1
    clear ha
    go_enter Tryd.func13, Tryd.ntmps13
    go_upto_region 1 with fail
    rw [← hwb]
    clear hwb
    go_wp2_with fail
    (with_reducible refine hm1.mono ?_)
    rintro e w2 ⟨rfl, k2⟩
    have HK := Lib.hid (HBB.out.2.2.trans k2)
    clear k2 hm1 f0 f1 f2 f3 f4 f5 e0 e1 e2 e3 e4 e5
    go_wp2
    go_ret
    exact ⟨by rw [HD.out]; rfl, HK.out⟩
  rw [decide_eq_true ha] at hm1
  go_enter Tryd.func13, Tryd.ntmps13
  go_upto_region 1 with fail
  rw [← hwb]
  clear hwb
  go_wp2_with fail
  (with_reducible refine hm1.mono ?_)
  rintro e w2 ⟨rfl, k2⟩
  have hm2 := M2.out w2 (HBB.out.2.2.trans k2)
  clear hm1 f0 f1 f2 f3 f4 f5 e0 e1 e2 e3 e4 e5
  obtain ⟨f0, f1, f2, f3, f4, f5, e0, e1, e2, e3, e4, e5⟩ := HF.out w2 k2
  have HK2 := Lib.hid k2
  clear k2
  by_cases hb : MayG b
  case neg =>
    have HD := Lib.hid (show decide (AlikeG a b) = false from decide_eq_false (fun e => hb (HA.out.1 e).2.1))
    rw [decide_eq_false hb] at hm2
    clear hb ha
    go_wp2_with fail
    (with_reducible refine hm2.mono ?_)
    rintro e w3 ⟨rfl, k3⟩
    have HK := Lib.hid ((HBB.out.2.2.trans HK2.out).trans k3)
    clear k3 hm2 f0 f1 f2 f3 f4 f5 e0 e1 e2 e3 e4 e5
    go_wp2
    go_ret
    exact ⟨by rw [HD.out]; rfl, HK.out⟩
  rw [decide_eq_true hb] at hm2
  have HD := Lib.hid (show decide (AlikeG a b) = (decide (SameNs ta.nodes tb.nodes) && (decide (ta.roots = tb.roots) && decide (ta.weaks = tb.weaks))) by
    rw [Bool.eq_iff_iff]
    simp only [decide_eq_true_eq, Bool.and_eq_true]
    constructor
    · intro e
      have e2 := (HA.out.1 e).2.2
      exact ⟨(by show ta.nodes = tb.nodes; rw [e2]), by rw [e2], by rw [e2]⟩
    · rintro ⟨e1, e2, e3⟩
      refine HA.out.2 ⟨ha, hb, ?_⟩
      have e1' : ta.nodes = tb.nodes := e1
      obtain ⟨x1, x2, x3⟩ := ta
      obtain ⟨y1, y2, y3⟩ := tb
      dsimp only at e1' e2 e3
      rw [e1', e2, e3])
  clear ha hb
  go_wp2_with fail
  (with_reducible refine hm2.mono ?_)
  rintro e w3 ⟨rfl, k3⟩
  have k3' := HK2.out.trans k3
  clear hm2 f0 f1 f2 f3 f4 f5 e0 e1 e2 e3 e4 e5 k3
  obtain ⟨f0, f1, f2, f3, f4, f5, e0, e1, e2, e3, e4, e5⟩ := HF.out w3.drew (k3'.trans (Keep.drew _))
  have HK3 := Lib.hid k3'
  clear k3'
  go_upto_region 3 with fail
  go_cut [13] (fun s13 wx => ∃ E0 E1 E2 G0 G1 G2 e0 e1 e2 g0 g1 g2, Blk wx w.heap.size 25 #[.slice E0 ta.nodes.length e0, .slice E1 ta.roots.length e1, .slice E2 ta.weaks.length e2] ∧ Blk wx (w.heap.size + 1) 25 #[.slice G0 tb.nodes.length g0, .slice G1 tb.roots.length g1, .slice G2 tb.weaks.length g2] ∧ GIn wx E0 E1 E2 e0 e1 e2 ta ∧ GIn wx G0 G1 G2 g0 g1 g2 tb ∧ Keep [] w wx)
  case first =>
    go_wp2_with fail
    go_region_with (first
      | (go_at_call 9; with_reducible refine (T1.out _ (HK3.out.trans (Keep.drew _))).mono ?_; rintro e w6 ⟨E0, E1, E2, x0, x1, x2, rfl, hg1, k6⟩; have k6 := (HK3.out.trans (Keep.drew _)).trans k6; obtain ⟨f0, f1, f2, f3, f4, f5, e0, e1, e2, e3, e4, e5⟩ := HF.out w6 k6)
      | (go_at_call 9; with_reducible refine (T2.out _ k6).mono ?_; rintro e w7 ⟨G0, G1, G2, y0, y1, y2, rfl, hg2, k7⟩; have hg1 := hg1.keep k7; have k7 := k6.trans k7; obtain ⟨f0, f1, f2, f3, f4, f5, e0, e1, e2, e3, e4, e5⟩ := HF.out w7 k7))
    all_goals
      have q1 := HBB.out.1.keep k7 (by simp)
      have q2 := HBB.out.2.1.keep k7 (by simp)
      have hno : NoInt w7 [w.heap.size, w.heap.size + 1] := fun x hx o k n => by
        simp only [List.mem_cons, List.not_mem_nil, or_false] at hx
        rcases hx with rfl | rfl
        · exact noint3 q1 o k n
        · exact noint3 q2 o k n
      have hk8 : Keep [w.heap.size, w.heap.size + 1] w7 ((((((w7.setCell ⟨w.heap.size, 0, none⟩ (.slice E0 ta.nodes.length x0)).setCell ⟨w.heap.size, 1, none⟩ (.slice E1 ta.roots.length x1)).setCell ⟨w.heap.size, 2, none⟩ (.slice E2 ta.weaks.length x2)).setCell ⟨w.heap.size + 1, 0, none⟩ (.slice G0 tb.nodes.length y0)).setCell ⟨w.heap.size + 1, 1, none⟩ (.slice G1 tb.roots.length y1)).setCell ⟨w.heap.size + 1, 2, none⟩ (.slice G2 tb.weaks.length y2)) :=
        (((((Keep.setCell _ _ (by simp) _).trans (Keep.setCell _ _ (by simp) _)).trans (Keep.setCell _ _ (by simp) _)).trans (Keep.setCell _ _ (by simp) _)).trans (Keep.setCell _ _ (by simp) _)).trans (Keep.setCell _ _ (by simp) _)
      have p1 := (((Blk.set3 q1 (.slice E0 ta.nodes.length x0) (.slice E1 ta.roots.length x1) (.slice E2 ta.weaks.length x2)).far (p := ⟨w.heap.size + 1, 0, none⟩) (by simp) (.slice G0 tb.nodes.length y0)).far (p := ⟨w.heap.size + 1, 1, none⟩) (by simp) (.slice G1 tb.roots.length y1)).far (p := ⟨w.heap.size + 1, 2, none⟩) (by simp) (.slice G2 tb.weaks.length y2)
      have p2 := Blk.set3 (((q2.far (p := ⟨w.heap.size, 0, none⟩) (by simp) (.slice E0 ta.nodes.length x0)).far (p := ⟨w.heap.size, 1, none⟩) (by simp) (.slice E1 ta.roots.length x1)).far (p := ⟨w.heap.size, 2, none⟩) (by simp) (.slice E2 ta.weaks.length x2)) (.slice G0 tb.nodes.length y0) (.slice G1 tb.roots.length y1) (.slice G2 tb.weaks.length y2)
      have HE := Lib.hid (And.intro p1 (And.intro p2 (And.intro (hg1.away hk8 hno) (And.intro (hg2.away hk8 hno) ((HBB.out.2.2.trans k7).since hk8 (by simp))))))
      clear q1 q2 hno hk8 p1 p2 hg1 hg2 k6 k7
      go_wp2_with fail
      go_meet
      exact ⟨E0, E1, E2, G0, G1, G2, x0, x1, x2, y0, y1, y2, HE.out.1, HE.out.2.1, HE.out.2.2.1, HE.out.2.2.2.1, HE.out.2.2.2.2⟩
  case rest =>
  obtain ⟨E0, E1, E2, G0, G1, G2, x0, x1, x2, y0, y1, y2, hb1, hb2, hg1, hg2, hK⟩ := hcut
  have u0 := (hb1.cell 0).trans (show _ = some (Value.slice E0 ta.nodes.length x0) from rfl)
  have v0 := (hb2.cell 0).trans (show _ = some (Value.slice G0 tb.nodes.length y0) from rfl)
  have s0 := equalFunc_any wc E0 G0 x0 y0 ta.nodes tb.nodes hg1.nodes hg2.nodes
  have s1 := fun W (hk : Keep [] wc W) => equal_ints W E1 G1 x1 y1 ta.roots tb.roots (hg1.roots.keep hk) (hg2.roots.keep hk)
  have s2 := fun W (hk : Keep [] wc W) => equal_ints W E2 G2 x2 y2 ta.weaks tb.weaks (hg1.weaks.keep hk) (hg2.weaks.keep hk)
  have hc := fun W (hk : Keep [] wc W) => And.intro (((hb1.keep hk (by simp)).cell 1).trans (show _ = some (Value.slice E1 ta.roots.length x1) from rfl)) (And.intro (((hb2.keep hk (by simp)).cell 1).trans (show _ = some (Value.slice G1 tb.roots.length y1) from rfl)) (And.intro (((hb1.keep hk (by simp)).cell 2).trans (show _ = some (Value.slice E2 ta.weaks.length x2) from rfl)) (((hb2.keep hk (by simp)).cell 2).trans (show _ = some (Value.slice G2 tb.weaks.length y2) from rfl))))
  obtain ⟨p0, hp0⟩ : ∃ p, decide (SameNs ta.nodes tb.nodes) = p := ⟨_, rfl⟩
  obtain ⟨p1, hp1⟩ : ∃ p, decide (ta.roots = tb.roots) = p := ⟨_, rfl⟩
  obtain ⟨p2, hp2⟩ : ∃ p, decide (ta.weaks = tb.weaks) = p := ⟨_, rfl⟩
  have hd := HD.out
  rw [hp0, hp1, hp2] at hd
  rw [hp0] at s0
  rw [hp1] at s1
  rw [hp2] at s2
  have HDD := Lib.hid hd
  have S1 := Lib.hid s1
  have S2 := Lib.hid s2
  have HC := Lib.hid hc
  have HKc := Lib.hid hK
  clear hd HD hp0 hp1 hp2 s1 s2 hc hb1 hb2 hg1 hg2 hK f0 f1 f2 f3 f4 f5 e0 e1 e2 e3 e4 e5
  generalize ta.nodes.length = l0 at *
  generalize ta.roots.length = l1 at *
  generalize ta.weaks.length = l2 at *
  generalize tb.nodes.length = m0 at *
  generalize tb.roots.length = m1 at *
  generalize tb.weaks.length = m2 at *
  cases p0 with
  | false =>
    go_wp2_with fail
    (with_reducible refine s0.mono ?_)
    rintro e w4 ⟨rfl, k4⟩
    have HK := Lib.hid (HKc.out.trans k4)
    clear k4 s0 u0 v0
    go_wp2
    go_ret
    exact ⟨by rw [HDD.out]; rfl, HK.out⟩
  | true =>
  go_wp2_with fail
  (with_reducible refine s0.mono ?_)
  rintro e w4 ⟨rfl, k4⟩
  obtain ⟨u1, v1, _, _⟩ := HC.out w4 k4
  have s1 := S1.out w4 k4
  have HK4 := Lib.hid k4
  clear k4 s0 u0 v0
  cases p1 with
  | false =>
    go_wp2_with fail
    (with_reducible refine s1.mono ?_)
    rintro e w5 ⟨rfl, k5⟩
    have HK := Lib.hid ((HKc.out.trans HK4.out).trans k5)
    clear k5 s1 u1 v1
    go_wp2
    go_ret
    exact ⟨by rw [HDD.out]; rfl, HK.out⟩
  | true =>
  go_wp2_with fail
  (with_reducible refine s1.mono ?_)
  rintro e w5 ⟨rfl, k5⟩
  have k5' := HK4.out.trans k5
  obtain ⟨_, _, u2, v2⟩ := HC.out w5 k5'
  have s2 := S2.out w5 k5'
  have HK5 := Lib.hid k5'
  clear k5 k5' s1 u1 v1
  go_wp2_with fail
  (with_reducible refine s2.mono ?_)
  rintro e w6 ⟨rfl, k6⟩
  have HK := Lib.hid ((HKc.out.trans HK5.out).trans k6)
  clear k6 s2 u2 v2
  go_wp2
  go_ret
  exact ⟨by rw [HDD.out]; rfl, HK.out⟩
end Go.Proofs.YtigclopkoolocaaDoor
