/-
  The document's twin of package graph: May. No conditions but what is in memory.
-/
import Derived.Test.YtigclopkoolocaaDoorGr2
import Derived.LoopN
namespace Go.Proofs.YtigclopkoolocaaDoor
open Go.RowKit Go.Flo Go.Bit
set_option maxRecDepth 100000

theorem idx20 (W : World) (A1 A2 : Option Addr) (n1 n2 c1 c2 : Nat) : (Instr.index 60 (.agg #[.slice A1 n1 c1, .slice A2 n2 c2]) (.int .i64 0)).run Tryd.prog W = .ok (.slice A1 n1 c1) W := by kernel_rfl

theorem idx21 (W : World) (A1 A2 : Option Addr) (n1 n2 c1 c2 : Nat) : (Instr.index 60 (.agg #[.slice A1 n1 c1, .slice A2 n2 c2]) (.int .i64 1)).run Tryd.prog W = .ok (.slice A2 n2 c2) W := by kernel_rfl

/-- The nodes that have been looked at may be. -/
def MayN (g : Gr) (k : Nat) : Prop := ∀ i, i < k → ∀ v ∈ (g.at i).fs, MayV g.n v

theorem mayG_iff (g : Gr) : MayG g ↔ g.n ≤ 4096 ∧ (∀ r ∈ g.roots, MayI g.n r) ∧ (∀ r ∈ g.weaks, MayI g.n r) ∧ MayN g g.n := by
  unfold MayG MayN
  constructor
  · rintro ⟨h1, h2, h3, h4⟩
    exact ⟨h1, h2, h3, fun i hi => h4 _ (at_mem hi)⟩
  · rintro ⟨h1, h2, h3, h4⟩
    refine ⟨h1, h2, h3, fun x hx => ?_⟩
    obtain ⟨i, hi, rfl⟩ := List.getElem_of_mem hx
    have := h4 i hi
    rwa [at_eq hi] at this

theorem mem_take_next {α : Type} {l : List α} {j : Nat} {d : α} (h : j < l.length) {P : α → Prop} (hP : ∀ r ∈ l.take j, P r) (hj : P (l.getD j d)) : ∀ r ∈ l.take (j + 1), P r := by
  intro r hr
  have e : l.take (j + 1) = l.take j ++ [l.getD j d] := by
    rw [List.take_add_one, List.getD_eq_getElem?_getD, List.getElem?_eq_getElem h]
    rfl
  rw [e] at hr
  rcases List.mem_append.1 hr with hr | hr
  · exact hP r hr
  · rw [List.mem_singleton] at hr; subst hr; exact hj

theorem getD_mem {α : Type} {l : List α} {j : Nat} {d : α} (h : j < l.length) : l.getD j d ∈ l := by
  rw [List.getD_eq_getElem?_getD, List.getElem?_eq_getElem h]
  exact List.getElem_mem h

set_option maxHeartbeats 4000000 in
theorem rmayg_any (w : World) (A0 A1 A2 : Option Addr) (c0 c1 c2 : Nat) (g : Gr) (h : GIn w A0 A1 A2 c0 c1 c2 g) :
    Calls Tryd.prog 23 #[.agg #[.slice A0 g.nodes.length c0, .slice A1 g.roots.length c1, .slice A2 g.weaks.length c2]] w fun e w' => e = .returned (.bool (decide (MayG g))) ∧ Keep [] w w' := by
  obtain ⟨b, hb⟩ : ∃ b, decide (MayG g) = b := ⟨_, rfl⟩
  rw [hb]
  have HN := Lib.hid (show ¬ MayG g → b = false from fun e => by rw [← hb, decide_eq_false e])
  have HY := Lib.hid (show MayG g → b = true from fun e => by rw [← hb, decide_eq_true e])
  clear hb
  obtain ⟨n, hnn⟩ : ∃ n, g.n = n := ⟨_, rfl⟩
  have hnl : g.nodes.length = n := hnn
  rw [hnl]
  obtain ⟨n1, hn1⟩ : ∃ n1, g.roots.length = n1 := ⟨_, rfl⟩
  obtain ⟨n2, hn2⟩ : ∃ n2, g.weaks.length = n2 := ⟨_, rfl⟩
  rw [hn1, hn2]
  have hnc := h.nodes.nc
  have hncm := h.nodes.cap
  have h1c := h.roots.nc
  have h1m := h.roots.cap
  have h2c := h.weaks.nc
  have h2m := h.weaks.cap
  rw [hnl] at hnc
  rw [hn1] at h1c
  rw [hn2] at h2c
  have HQ := Lib.hid (And.intro hnn (And.intro hnl (And.intro hn1 hn2)))
  have HG := Lib.hid h
  clear h hnl hn1 hn2
  have ka : Keep [] w (w.alloc (.cells #[.slice A0 n c0, .slice A1 n1 c1, .slice A2 n2 c2] 25)) := Keep.alloc _ _
  have HB := Lib.hid (Blk.new w 25 #[.slice A0 n c0, .slice A1 n1 c1, .slice A2 n2 c2])
  by_cases h4 : n ≤ 4096
  case neg =>
    have h4' : (4096 : Int) < n := by omega
    have HD := Lib.hid (HN.out fun e => by have := e.1; omega)
    clear hnn
    go_enter Tryd.func23, Tryd.ntmps23
    go_wp2
    go_ret
    exact ⟨by rw [HD.out]; rfl, ka⟩
  have h4' : ¬ (4096 : Int) < n := by omega
  have i0 := fun W => idx20 W A1 A2 n1 n2 c1 c2
  have i1 := fun W => idx21 W A1 A2 n1 n2 c1 c2
  have HI0 := Lib.hid i0
  have HI1 := Lib.hid i1
  have HKA := Lib.hid ka
  clear hnn i0 i1 ka
  go_enter Tryd.func23, Tryd.ntmps23
  obtain ⟨W0, hW0⟩ : ∃ W0, W0 = w.alloc (.cells #[.slice A0 n c0, .slice A1 n1 c1, .slice A2 n2 c2] 25) := ⟨_, rfl⟩
  rw [← hW0] at HB HKA
  have HW0 := Lib.hid hW0
  go_wp2
  rw [← HW0.out]
  clear hW0
  refine wp_loop_rounds 3 ?_
  rw [rounds_succ]
  have i0 := HI0.out
  go_wp2
  clear i0
  go_loopw [27] (fun x wr => ∃ j : Nat, j ≤ n1 ∧ x = .int .i64 j ∧ (∀ r ∈ g.roots.take j, MayI n r) ∧ Keep [] W0 wr) (fun x _ => n1 - (RowKit.intOf x).toNat)
  case atStart => exact ⟨0, by omega, rfl, by simp, Keep.refl _ _⟩
  case round =>
  obtain ⟨j, hj, rfl, hok, hK⟩ := hrel
  by_cases hlt : j < n1
  case pos =>
    obtain ⟨bl, ol, rfl, hbl, hcl⟩ := (HG.out.roots.keep (HKA.out.trans hK)).cells (by rw [HQ.out.2.2.1]; omega)
    have cj := hcl j (by rw [HQ.out.2.2.1]; exact hlt)
    have HO := Lib.hid (And.intro hok hK)
    clear hcl hok hK
    have hmem : g.roots.getD j 0 ∈ g.roots := getD_mem (by rw [HQ.out.2.2.1]; exact hlt)
    have hbad : ¬ MayI n (g.roots.getD j 0) → b = false := fun e => HN.out fun hm => e (by have := hm.2.1 _ hmem; rwa [HQ.out.1] at this)
    have hgood : MayI n (g.roots.getD j 0) → ∀ r ∈ g.roots.take (j + 1), MayI n r := fun e => mem_take_next (by rw [HQ.out.2.2.1]; exact hlt) HO.out.1 e
    have HBD := Lib.hid hbad
    have HGD := Lib.hid hgood
    clear hmem hbad hgood
    generalize g.roots.getD j 0 = y at *
    by_cases y0 : y < -1
    · have HD := Lib.hid (HBD.out (fun e => by unfold MayI at e; omega))
      go_wp2
      go_ret
      exact ⟨by rw [HD.out]; rfl, HKA.out.trans HO.out.2⟩
    by_cases y1 : (n : Int) ≤ y
    · have HD := Lib.hid (HBD.out (fun e => by unfold MayI at e; omega))
      go_wp2
      go_ret
      exact ⟨by rw [HD.out]; rfl, HKA.out.trans HO.out.2⟩
    have HD := Lib.hid (HGD.out (by unfold MayI; omega))
    go_wp2
    go_roundw
    case rel => exact ⟨j + 1, by omega, by go_num, HD.out, HO.out.2⟩
    case measure => simp [RowKit.intOf]; omega
  obtain rfl : j = n1 := by omega
  rw [show g.roots.take j = g.roots by rw [← HQ.out.2.2.1]; exact List.take_length] at hok
  have HR := Lib.hid (And.intro hok hK)
  clear hok hK
  have i1 := HI1.out
  go_wp2
  rw [rounds_succ]
  go_wp2
  clear i1
  go_loopw [27] (fun x wr => ∃ j : Nat, j ≤ n2 ∧ x = .int .i64 j ∧ (∀ r ∈ g.weaks.take j, MayI n r) ∧ Keep [] W0 wr) (fun x _ => n2 - (RowKit.intOf x).toNat)
  case atStart => exact ⟨0, by omega, rfl, by simp, HR.out.2⟩
  case round =>
  obtain ⟨j, hj, rfl, hok, hK⟩ := hrel
  by_cases hlt : j < n2
  case pos =>
    obtain ⟨bl, ol, rfl, hbl, hcl⟩ := (HG.out.weaks.keep (HKA.out.trans hK)).cells (by rw [HQ.out.2.2.2]; omega)
    have cj := hcl j (by rw [HQ.out.2.2.2]; exact hlt)
    have HO := Lib.hid (And.intro hok hK)
    clear hcl hok hK
    have hmem : g.weaks.getD j 0 ∈ g.weaks := getD_mem (by rw [HQ.out.2.2.2]; exact hlt)
    have hbad : ¬ MayI n (g.weaks.getD j 0) → b = false := fun e => HN.out fun hm => e (by have := hm.2.2.1 _ hmem; rwa [HQ.out.1] at this)
    have hgood : MayI n (g.weaks.getD j 0) → ∀ r ∈ g.weaks.take (j + 1), MayI n r := fun e => mem_take_next (by rw [HQ.out.2.2.2]; exact hlt) HO.out.1 e
    have HBD := Lib.hid hbad
    have HGD := Lib.hid hgood
    clear hmem hbad hgood
    generalize g.weaks.getD j 0 = y at *
    by_cases y0 : y < -1
    · have HD := Lib.hid (HBD.out (fun e => by unfold MayI at e; omega))
      go_wp2
      go_ret
      exact ⟨by rw [HD.out]; rfl, HKA.out.trans HO.out.2⟩
    by_cases y1 : (n : Int) ≤ y
    · have HD := Lib.hid (HBD.out (fun e => by unfold MayI at e; omega))
      go_wp2
      go_ret
      exact ⟨by rw [HD.out]; rfl, HKA.out.trans HO.out.2⟩
    have HD := Lib.hid (HGD.out (by unfold MayI; omega))
    go_wp2
    go_roundw
    case rel => exact ⟨j + 1, by omega, by go_num, HD.out, HO.out.2⟩
    case measure => simp [RowKit.intOf]; omega
  obtain rfl : j = n2 := by omega
  rw [show g.weaks.take j = g.weaks by rw [← HQ.out.2.2.2]; exact List.take_length] at hok
  have HWK := Lib.hid (And.intro hok hK)
  clear hok hK
  have cb := ((HB.out.keep HWK.out.2 (by simp)).cell 0).trans (show _ = some (Value.slice A0 n c0) from rfl)
  go_wp2
  rw [rounds_succ]
  go_wp2
  clear cb
  go_loopw [43] (fun x wr => ∃ k : Nat, k ≤ n ∧ x = .int .i64 k ∧ MayN g k ∧ Keep [] W0 wr) (fun x _ => n - (RowKit.intOf x).toNat)
  case atStart => exact ⟨0, by omega, rfl, fun i hi => by omega, HWK.out.2⟩
  case round =>
  obtain ⟨k, hk, rfl, hok, hK⟩ := hrel
  by_cases hkt : k < n
  case neg =>
    obtain rfl : k = n := by omega
    have HD := Lib.hid (And.intro (HY.out ((mayG_iff g).2 ⟨by rw [HQ.out.1]; exact h4, by rw [HQ.out.1]; exact HR.out.1, by rw [HQ.out.1]; exact HWK.out.1, by rw [HQ.out.1]; exact hok⟩)) hK)
    clear hok hK
    go_wp2
    go_ret
    exact ⟨by rw [HD.out.1]; rfl, HKA.out.trans HD.out.2⟩
  obtain ⟨bN, oN, rfl, hbN, hcN⟩ := (HG.out.nodes.keep (HKA.out.trans hK)).cells (by rw [HQ.out.2.1]; omega)
  obtain ⟨AF, cF, e0, e1, hvF⟩ := hcN k (by rw [HQ.out.2.1]; exact hkt)
  have hfs : (g.nodes.getD k nod0) = g.at k := rfl
  rw [hfs] at e0 e1 hvF
  have hbadn : ∀ v ∈ (g.at k).fs, ¬ MayV n v → b = false := fun v hv e => HN.out fun hm => e (by have := hm.2.2.2 _ (at_mem (g := g) (i := k) (by rw [HQ.out.1]; exact hkt)) v hv; rwa [HQ.out.1] at this)
  have hgoodn : (∀ v ∈ (g.at k).fs, MayV n v) → MayN g (k + 1) := fun e i hi => by
    rcases Nat.lt_or_ge i k with h | h
    · exact hok i h
    · rw [show i = k by omega, HQ.out.1]; exact e
  obtain ⟨fs, hfse⟩ : ∃ fs, (g.at k).fs = fs := ⟨_, rfl⟩
  rw [hfse] at e1 hvF hbadn hgoodn
  obtain ⟨mF, hmF⟩ : ∃ mF, fs.length = mF := ⟨_, rfl⟩
  have hfc := hvF.nc
  have hfm := hvF.cap
  rw [hmF] at e1 hfc
  generalize (g.at k).K = NK at *
  have ka : Keep [] wr (wr.alloc (.cells #[.int .i64 NK, .slice AF mF cF] 33)) := Keep.alloc _ _
  have HV := Lib.hid (And.intro (hvF.keep ka) hmF)
  have HBN := Lib.hid (And.intro hbadn hgoodn)
  have HK := Lib.hid (And.intro hok (And.intro (hK.trans ka) hK))
  have hW1 : ∃ W1, W1 = wr.alloc (.cells #[.int .i64 NK, .slice AF mF cF] 33) := ⟨_, rfl⟩
  obtain ⟨W1, hW1⟩ := hW1
  rw [← hW1] at HV HK
  have HW1 := Lib.hid hW1
  clear hcN hfs hbadn hgoodn hfse hmF hvF hok hK ka hW1
  go_wp2
  rw [← HW1.out]
  go_loopw [50] (fun x wq => ∃ j : Nat, j ≤ mF ∧ x = .int .i64 j ∧ (∀ v ∈ fs.take j, MayV n v) ∧ Keep [] W1 wq) (fun x _ => mF - (RowKit.intOf x).toNat)
  case atStart => exact ⟨0, by omega, rfl, by simp, Keep.refl _ _⟩
  case round =>
  obtain ⟨j, hj, rfl, hok, hK⟩ := hrel
  by_cases hlt : j < mF
  case neg =>
    obtain rfl : j = mF := by omega
    rw [show fs.take j = fs by rw [← HV.out.2]; exact List.take_length] at hok
    have HD := Lib.hid (And.intro (HBN.out.2 hok) (HK.out.2.1.trans hK))
    clear hok hK
    go_wp2
    go_roundw
    case rel => exact ⟨k + 1, by omega, by go_num, HD.out.1, HD.out.2⟩
    case measure => simp [RowKit.intOf]; omega
  obtain ⟨bF, oF, rfl, hbF, hcF⟩ := (HV.out.1.keep hK).cells (by rw [HV.out.2]; omega)
  obtain ⟨d0, d1, d2, d3, d4⟩ := hcF j (by rw [HV.out.2]; exact hlt)
  have hmem : fs.getD j z0 ∈ fs := getD_mem (by rw [HV.out.2]; exact hlt)
  have hgd : MayV n (fs.getD j z0) → ∀ v ∈ fs.take (j + 1), MayV n v := fun e => mem_take_next (by rw [HV.out.2]; exact hlt) hok e
  have hbd : ¬ MayV n (fs.getD j z0) → b = false := HBN.out.1 _ hmem
  obtain ⟨V, hV⟩ : ∃ V, fs.getD j z0 = V := ⟨_, rfl⟩
  rw [hV] at d0 d1 d2 d3 d4 hgd hbd
  obtain ⟨x0, x1, x2, x3, x4⟩ := V
  dsimp only at d0 d1 d2 d3 d4
  have kb : Keep [] wr (wr.alloc (.cells #[.int .i64 x0, .int .i64 x1, .int .u64 x2, .int .u64 x3, .int .i64 x4] 36)) := Keep.alloc _ _
  have HD := Lib.hid (And.intro hgd (And.intro hbd (hK.trans kb)))
  clear hcF hmem hgd hbd hV hok hK kb
  by_cases y0 : x0 < 0
  · have HE := Lib.hid (HD.out.2.1 (fun e => by unfold MayV at e; dsimp only at e; omega))
    go_wp2
    go_ret
    exact ⟨by rw [HE.out]; rfl, (HKA.out.trans HK.out.2.1).trans HD.out.2.2⟩
  by_cases y1 : 3 < x0
  · have HE := Lib.hid (HD.out.2.1 (fun e => by unfold MayV at e; dsimp only at e; omega))
    go_wp2
    go_ret
    exact ⟨by rw [HE.out]; rfl, (HKA.out.trans HK.out.2.1).trans HD.out.2.2⟩
  by_cases y2 : x0 = 3
  case neg =>
    have y2' : (x0 == 3) = false := by simpa using y2
    have HE := Lib.hid (HD.out.1 (by unfold MayV; dsimp only; omega))
    go_wp2
    go_roundw
    case rel => exact ⟨j + 1, by omega, by go_num, HE.out, HD.out.2.2⟩
    case measure => simp [RowKit.intOf]; omega
  subst y2
  by_cases y3 : x4 < 0
  · have HE := Lib.hid (HD.out.2.1 (fun e => by unfold MayV at e; dsimp only at e; omega))
    go_wp2
    go_ret
    exact ⟨by rw [HE.out]; rfl, (HKA.out.trans HK.out.2.1).trans HD.out.2.2⟩
  by_cases y4 : (n : Int) ≤ x4
  · have HE := Lib.hid (HD.out.2.1 (fun e => by unfold MayV at e; dsimp only at e; omega))
    go_wp2
    go_ret
    exact ⟨by rw [HE.out]; rfl, (HKA.out.trans HK.out.2.1).trans HD.out.2.2⟩
  have HE := Lib.hid (HD.out.1 (by unfold MayV; dsimp only; omega))
  go_wp2
  go_roundw
  case rel => exact ⟨j + 1, by omega, by go_num, HE.out, HD.out.2.2⟩
  case measure => simp [RowKit.intOf]; omega
end Go.Proofs.YtigclopkoolocaaDoor
