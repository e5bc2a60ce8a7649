/-
  GraphShuts walked. No conditions but what is in memory.
-/
import Derived.Test.YtigclopkoolocaaGd12
namespace Go.Flo
open Go.RowKit Go.Bit
theorem BoolL.at_ {w w' : World} {A : Option Addr} {c : Nat} {l : List Bool} {own : List Nat} (h : BoolL w A c l) (hk : Keep own w w') (ho : ∀ x ∈ own, w.heap.size ≤ x) : BoolL w' A c l :=
  ⟨h.nc, h.cap, fun h0 => by
    obtain ⟨b, o, h1, h3, h4⟩ := h.cells h0
    exact ⟨b, o, h1, Nat.lt_of_lt_of_le h3 hk.size, fun j hj => (hk.cell (p := ⟨b, _, none⟩) h3 (fun hm => by have := ho b hm; omega)).trans (h4 j hj)⟩⟩
end Go.Flo
namespace Go.Proofs.Ytigclopkoolocaa
open Go.RowKit Go.Flo Go.Bit
set_option maxRecDepth 100000

set_option maxHeartbeats 20000000 in
theorem walk_gshuts (w : World) (A0 A1 A2 Al : Option Addr) (c0 c1 c2 cl : Nat) (g : Gr) (l : List Int) (h : GIn w A0 A1 A2 c0 c1 c2 g) (hl : IntL w Al cl l) :
    Calls Try.prog 6 #[.agg #[.slice A0 g.nodes.length c0, .slice A1 g.roots.length c1, .slice A2 g.weaks.length c2], .slice Al l.length cl] w fun e w' => e = .returned (.bool true) ∧ Keep [] w w' := by
  have m1 := fun W (hk : Keep [] w W) => mayg_any W A0 A1 A2 c0 c1 c2 g (h.keep hk)
  have r1 := fun W (hk : Keep [] w W) => reach_any W A0 A1 A2 Al c0 c1 c2 cl g l (h.keep hk) (hl.keep hk)
  have li := fun W (hk : Keep [] w W) => light12_any W A0 A1 A2 c0 c1 c2 g (h.keep hk)
  have AW := Lib.hid awake12_any
  have hlc := hl.nc
  have hlm := hl.cap
  have hnc := h.nodes.nc
  have hncm := h.nodes.cap
  obtain ⟨n0, hn0⟩ : ∃ n, g.nodes.length = n := ⟨_, rfl⟩
  obtain ⟨q, hq⟩ : ∃ q, l.length = q := ⟨_, rfl⟩
  have HG := Lib.hid (And.intro h (And.intro hl (And.intro hn0 hq)))
  rw [hn0] at m1 r1 li hnc ⊢
  rw [hq] at r1 hlc ⊢
  clear h hl hn0 hq
  generalize g.roots.length = n1 at *
  generalize g.weaks.length = n2 at *
  have ka : Keep [] w (w.alloc (.cells #[.slice A0 n0 c0, .slice A1 n1 c1, .slice A2 n2 c2] 25)) := Keep.alloc _ _
  have hba := Blk.new w 25 #[.slice A0 n0 c0, .slice A1 n1 c1, .slice A2 n2 c2]
  obtain ⟨w1, hw1⟩ : ∃ w1, w1 = w.alloc (.cells #[.slice A0 n0 c0, .slice A1 n1 c1, .slice A2 n2 c2] 25) := ⟨_, rfl⟩
  rw [← hw1] at ka hba
  have hf := fun W (hk : Keep [] w1 W) => And.intro (((hba.keep hk (by simp)).cell 0).trans (show _ = some (Value.slice A0 n0 c0) from rfl)) (And.intro (((hba.keep hk (by simp)).cell 1).trans (show _ = some (Value.slice A1 n1 c1) from rfl)) (((hba.keep hk (by simp)).cell 2).trans (show _ = some (Value.slice A2 n2 c2) from rfl)))
  unfold BolPost at r1
  have M1 := Lib.hid (fun W (hk : Keep [] w1 W) => m1 W (ka.trans hk))
  have R1 := Lib.hid (fun W (hk : Keep [] w1 W) => r1 W (ka.trans hk))
  have HF := Lib.hid hf
  have HKA := Lib.hid ka
  have HBA := Lib.hid hba
  have hli := li w1 ka
  obtain ⟨p, hp⟩ : ∃ p, decide (Light12 g) = p := ⟨_, rfl⟩
  rw [hp] at hli
  have HLI := Lib.hid hp
  clear hp m1 r1 hf li ka hba
  cases p with
  | false =>
    go_enter Try.func6, Try.ntmps6
    go_wp2_with fail
    rw [← hw1]
    (with_reducible refine hli.mono ?_)
    rintro e w2 ⟨rfl, k2⟩
    have haw := AW.out w2
    have HK := Lib.hid (HKA.out.trans k2)
    clear k2 hli
    go_wp2_with fail
    (with_reducible refine haw.mono ?_)
    rintro e w3 ⟨rfl, k3⟩
    have HK3 := Lib.hid (HK.out.trans k3)
    clear k3 haw
    go_wp2
    go_ret
    exact ⟨rfl, HK3.out⟩
  | true =>
  by_cases hq : 60 < q
  · have hq' : (60 : Int) < q := by omega
    go_enter Try.func6, Try.ntmps6
    go_wp2_with fail
    rw [← hw1]
    (with_reducible refine hli.mono ?_)
    rintro e w2 ⟨rfl, k2⟩
    have haw := AW.out w2
    have HK := Lib.hid (HKA.out.trans k2)
    clear k2 hli
    go_wp2_with fail
    (with_reducible refine haw.mono ?_)
    rintro e w3 ⟨rfl, k3⟩
    have HK3 := Lib.hid (HK.out.trans k3)
    clear k3 haw
    go_wp2
    go_ret
    exact ⟨rfl, HK3.out⟩
  have hq' : ¬ (60 : Int) < q := by omega
  go_enter Try.func6, Try.ntmps6
  go_wp2_with fail
  rw [← hw1]
  (with_reducible refine hli.mono ?_)
  rintro e w2 ⟨rfl, k2⟩
  have hm := M1.out w2 k2
  have HK2 := Lib.hid k2
  obtain ⟨f0, f1, f2⟩ := HF.out w2 k2
  clear k2 hli hw1
  by_cases hM : MayG g
  case neg =>
    rw [decide_eq_false hM] at hm
    clear hM
    have HKB := Lib.hid (HKA.out.trans HK2.out)
    go_wp2_with fail
    clear f0 f1 f2
    (with_reducible refine hm.mono ?_)
    rintro e w9 ⟨rfl, k9⟩
    have haw := AW.out w9
    have HK := Lib.hid (HKB.out.trans k9)
    clear k9 hm
    go_wp2_with fail
    (with_reducible refine haw.mono ?_)
    rintro e w10 ⟨rfl, k10⟩
    have HK3 := Lib.hid (HK.out.trans k10)
    clear k10 haw
    go_wp2
    go_ret
    exact ⟨rfl, HK3.out⟩
  rw [decide_eq_true hM] at hm
  have HM := Lib.hid hM
  have hR : reachB g l = (List.range n0).map (fun i => decide (i ∈ orderG g l)) := by
    rw [show reachB g l = (List.range g.n).map (fun i => decide (i ∈ orderG g l)) from if_pos hM, show g.n = n0 from HG.out.2.2.1]
  have h96 := hM.1
  rw [show g.n = n0 from HG.out.2.2.1] at h96
  clear hM
  go_wp2_with fail
  (with_reducible refine hm.mono ?_)
  rintro e w3 ⟨rfl, k3⟩
  have k3' := HK2.out.trans k3
  have hrr := R1.out w3 k3'
  have hRl : (reachB g l).length = n0 := by rw [hR]; simp
  rw [hRl] at hrr
  have HK3 := Lib.hid k3'
  clear k3 k3' hm f0 f1 f2
  obtain ⟨f0, f1, f2⟩ := HF.out w3 HK3.out
  go_wp2_with fail
  (with_reducible refine hrr.mono ?_)
  rintro e w4 ⟨E, x, rfl, hbl, k4⟩
  have k4' := HK3.out.trans k4
  clear hrr f0 f1 f2
  obtain ⟨f0, f1, f2⟩ := HF.out w4 k4'
  have hxc := hbl.nc
  have hxm := hbl.cap
  rw [hRl] at hxc
  have hbz := (HBA.out.keep k4' (by simp)).lt
  have H4 := Lib.hid (And.intro hbl (And.intro (HKA.out.trans k4') (HBA.out.keep k4' (by simp))))
  have HRR := Lib.hid (And.intro hR hRl)
  clear k4 k4' hbl hR hRl
  have t1 : ((n0 : Int) == n0) = true := by simp
  have t2 : ((n0 : Int) != n0) = false := by simp
  have hmk := mk_bools n0 (by omega) w4
  have hrow := Row.made w4 4 (.bool false) rfl n0 (by unfold maxLen; omega)
  rw [Nat.mul_one, show (Value.bool false).cells = #[Value.bool false] from rfl] at hrow
  have k5 : Keep [] w4 (w4.alloc (.cells (madeCells #[Value.bool false] n0) 4)) := Keep.alloc _ _
  obtain ⟨w5, hw5⟩ : ∃ w5, w5 = w4.alloc (.cells (madeCells #[Value.bool false] n0) 4) := ⟨_, rfl⟩
  rw [← hw5] at k5 hrow hmk
  have x0 := ((H4.out.2.2.keep k5 (by simp)).cell 0).trans (show _ = some (Value.slice A0 n0 c0) from rfl)
  have H5 := Lib.hid (And.intro hrow k5)
  clear hrow k5 hw5
  obtain ⟨bk, hbk⟩ : ∃ bk, w4.heap.size = bk := ⟨_, rfl⟩
  rw [hbk] at H5 hbz hmk
  have HBK := Lib.hid hbk
  have hO := fun i (hi : i < n0) => (show (reachB g l).getD i false = decide (i ∈ orderG g l) from by
    rw [HRR.out.1]
    simp [List.getD_eq_getElem?_getD, hi])
  have HO := Lib.hid hO
  clear hO
  go_wp2
  clear f0 f1 f2 x0 hmk
  go_loopw [42] (fun y wr => ∃ (j : Nat) (B : Nat → Bool), j ≤ q ∧ y = .int .i64 j ∧ Row wr 4 bk n0 n0 (fun i => .bool (B i)) ∧ (∀ i : Nat, i < n0 → (i : Int) ∈ l.take j → B i = true) ∧ Keep [bk] w4 wr) (fun y _ => q - (RowKit.intOf y).toNat)
  case atStart => exact ⟨0, fun _ => false, by omega, rfl, H5.out.1, by simp, H5.out.2.of_nil⟩
  case round =>
  obtain ⟨j, B, hj, rfl, hrow, hB, hK⟩ := hrel
  have hbk' := HBK.out
  have hbl := H4.out.1.at_ hK (by simp; omega)
  have hKw : Keep [] w wr := H4.out.2.1.since hK (by have := hbz; simp; have := H4.out.2.1.size; omega)
  by_cases hlt : j < q
  case pos =>
    obtain ⟨bl, ol, rfl, hbl2, hcl⟩ := (HG.out.2.1.keep hKw).cells (by rw [HG.out.2.2.2]; omega)
    have cj := hcl j (by rw [HG.out.2.2.2]; exact hlt)
    have hln : j < l.length := by rw [HG.out.2.2.2]; exact hlt
    have htn := take_next hln
    have hmem : l.getD j 0 ∈ l := getD_mem hln
    have hroot := fun h0 h1 => orderG_roots g l hmem h0 h1
    obtain ⟨y, hy⟩ : ∃ y, l.getD j 0 = y := ⟨_, rfl⟩
    rw [hy] at cj htn hroot
    clear hcl hmem hy
    by_cases y0 : y < 0
    · have y0' : ¬ 0 ≤ y := by omega
      have HE := Lib.hid (And.intro hrow (And.intro (fun (i : Nat) hi (hm : (i : Int) ∈ l.take (j + 1)) => hB i hi (by
        rw [htn] at hm
        rcases List.mem_append.1 hm with hm | hm
        · exact hm
        · simp at hm; omega)) hK))
      clear hrow hB hK htn hroot hbl hKw hbk'
      go_wp2
      go_roundw
      case rel => exact ⟨j + 1, B, by omega, by go_num, HE.out.1, HE.out.2.1, HE.out.2.2⟩
      case measure => simp [RowKit.intOf]; omega
    have y0' : 0 ≤ y := by omega
    by_cases y1 : (n0 : Int) ≤ y
    · have y1' : ¬ y < n0 := by omega
      have HE := Lib.hid (And.intro hrow (And.intro (fun (i : Nat) hi (hm : (i : Int) ∈ l.take (j + 1)) => hB i hi (by
        rw [htn] at hm
        rcases List.mem_append.1 hm with hm | hm
        · exact hm
        · simp at hm; omega)) hK))
      clear hrow hB hK htn hroot hbl hKw hbk'
      go_wp2
      go_roundw
      case rel => exact ⟨j + 1, B, by omega, by go_num, HE.out.1, HE.out.2.1, HE.out.2.2⟩
      case measure => simp [RowKit.intOf]; omega
    obtain ⟨a, rfl⟩ : ∃ a : Nat, y = a := ⟨y.toNat, by omega⟩
    have ha : a < n0 := by omega
    have haI : (a : Int) < n0 := by omega
    have hao : a ∈ orderG g l := by have := hroot (by omega) (by rw [show g.n = n0 from HG.out.2.2.1]; omega); simpa using this
    obtain ⟨bE, oE, rfl, hbE, hcE⟩ := hbl.cells (by rw [HRR.out.2]; omega)
    obtain ⟨bE4, oE4, e4, hbE4, _⟩ := H4.out.1.cells (by rw [HRR.out.2]; omega)
    simp only [Option.some.injEq, Addr.mk.injEq, and_true] at e4
    obtain ⟨rfl, rfl⟩ := e4
    have cE := hcE a (by rw [HRR.out.2]; exact ha)
    rw [HO.out a ha, decide_eq_true hao] at cE
    have hne : bE ≠ bk := by omega
    have cE' : (wr.setCell ⟨bk, a, none⟩ (.bool true)).cell? ⟨bE, oE + a, none⟩ = some (.bool true) := ((Keep.setCell (own := [bk]) wr ⟨bk, a, none⟩ (by simp) (.bool true)).cell (p := ⟨bE, _, none⟩) hbE (by simp; omega)).trans cE
    have fz := hrow.frozen a
    have ci := hrow.cell ha
    have HE := Lib.hid (And.intro ((hrow.set_ a (.bool true)).congr (f' := fun i => .bool (if i = a then true else B i)) (fun i hi => by by_cases e : i = a; simp [e]; simp [e])) (And.intro (fun (i : Nat) hi (hm : (i : Int) ∈ l.take (j + 1)) => (show (if i = a then true else B i) = true from by
      by_cases e : i = a
      · simp [e]
      · rw [if_neg e]
        refine hB i hi ?_
        rw [htn] at hm
        rcases List.mem_append.1 hm with hm | hm
        · exact hm
        · simp at hm; omega)) (hK.trans (Keep.setCell (own := [bk]) wr ⟨bk, a, none⟩ (by simp) (.bool true)))))
    clear hrow hB hK htn hroot hbl hKw hbk' hcE cE hao hne
    go_wp2
    go_roundw
    case rel => exact ⟨j + 1, fun i => if i = a then true else B i, by omega, by go_num, HE.out.1, HE.out.2.1, HE.out.2.2⟩
    case measure => simp [RowKit.intOf]; omega
  obtain rfl : j = q := by omega
  rw [show l.take j = l by rw [← HG.out.2.2.2]; exact List.take_length] at hB
  have hbx := H4.out.2.2.keep hK (by simp; omega)
  have x0 := (hbx.cell 0).trans (show _ = some (Value.slice A0 n0 c0) from rfl)
  have H6 := Lib.hid (And.intro hrow (And.intro hB hK))
  clear hrow hB hK hbl hKw hbk' hbx
  go_wp2
  clear x0
  go_loopw [66] (fun y wr => ∃ (k : Nat) (B : Nat → Bool), k ≤ n0 ∧ y = .int .i64 k ∧ Row wr 4 bk n0 n0 (fun i => .bool (B i)) ∧ (∀ i : Nat, i < n0 → ((i : Int) ∈ l ∨ ∃ p, p < k ∧ p ∈ orderG g l ∧ (i : Int) ∈ refsOf (g.at p).fs) → B i = true) ∧ Keep [bk] w4 wr) (fun y _ => n0 - (RowKit.intOf y).toNat)
  case atStart => exact ⟨0, B, by omega, rfl, H6.out.1, fun i hi hm => by
    rcases hm with hm | ⟨p, hp, _⟩
    · exact H6.out.2.1 i hi hm
    · omega, H6.out.2.2⟩
  case round =>
  obtain ⟨k, B, hk, rfl, hrow, hB, hK⟩ := hrel
  have hbk' := HBK.out
  have hbl := H4.out.1.at_ hK (by simp; omega)
  have hKw : Keep [] w wr := H4.out.2.1.since hK (by have := hbz; simp; have := H4.out.2.1.size; omega)
  by_cases hkt : k < n0
  case pos =>
    obtain ⟨bN, oN, rfl, hbN, hcN⟩ := (HG.out.1.nodes.keep hKw).cells (by rw [HG.out.2.2.1]; omega)
    obtain ⟨AF, cF, e0, e1, hvF⟩ := hcN k (by rw [HG.out.2.2.1]; exact hkt)
    have hfs : (g.nodes.getD k nod0) = g.at k := rfl
    rw [hfs] at e0 e1 hvF
    obtain ⟨fs, hfse⟩ : ∃ fs, (g.at k).fs = fs := ⟨_, rfl⟩
    have hshut := fun (hi : k ∈ orderG g l) r hr h0 h1 => orderG_shut g l hi (r := r) hr h0 h1
    have hmay := fun r hr => HM.out.ref (i := k) (by rw [show g.n = n0 from HG.out.2.2.1]; exact hkt) (r := r) hr
    rw [hfse] at e1 hvF hshut hmay
    obtain ⟨mF, hmF⟩ : ∃ mF, fs.length = mF := ⟨_, rfl⟩
    have hfc := hvF.nc
    have hfm := hvF.cap
    rw [hmF] at e1 hfc
    generalize (g.at k).K = NK at *
    have ka2 : Keep [] wr (wr.alloc (.cells #[.int .i64 NK, .slice AF mF cF] 35)) := Keep.alloc _ _
    obtain ⟨W1, hW1⟩ : ∃ W1, W1 = wr.alloc (.cells #[.int .i64 NK, .slice AF mF cF] 35) := ⟨_, rfl⟩
    rw [← hW1] at ka2
    have HW1 := Lib.hid hW1
    have hgon := fun (B' : Nat → Bool) (hb' : ∀ i : Nat, i < n0 → (((i : Int) ∈ l ∨ ∃ p, p < k ∧ p ∈ orderG g l ∧ (i : Int) ∈ refsOf (g.at p).fs) ∨ (k ∈ orderG g l ∧ (i : Int) ∈ refsOf fs)) → B' i = true) (i : Nat) (hi : i < n0) (hm : (i : Int) ∈ l ∨ ∃ p, p < k + 1 ∧ p ∈ orderG g l ∧ (i : Int) ∈ refsOf (g.at p).fs) => (show B' i = true from hb' i hi (by
      rcases hm with hm | ⟨p, hp, h1, h2⟩
      · exact Or.inl (Or.inl hm)
      · rcases Nat.lt_or_ge p k with h9 | h9
        · exact Or.inl (Or.inr ⟨p, h9, h1, h2⟩)
        · obtain rfl : p = k := by omega
          exact Or.inr ⟨h1, hfse ▸ h2⟩))
    have HV := Lib.hid (And.intro (hvF.keep ka2) (And.intro hmF (And.intro hshut (And.intro hmay hgon))))
    have HR := Lib.hid (And.intro (hrow.keep ka2 (by simp)) (And.intro hB (hK.trans ka2.of_nil)))
    clear hcN hfs hfse hvF hmF hshut hmay hgon hrow hB hK ka2 hW1 hbl hKw hbk'
    go_wp2
    rw [← HW1.out]
    clear e0 e1
    go_loopw [74] (fun y wq => ∃ (j : Nat) (B' : Nat → Bool), j ≤ mF ∧ y = .int .i64 j ∧ Row wq 4 bk n0 n0 (fun i => .bool (B' i)) ∧ (∀ i : Nat, i < n0 → (((i : Int) ∈ l ∨ ∃ p, p < k ∧ p ∈ orderG g l ∧ (i : Int) ∈ refsOf (g.at p).fs) ∨ (k ∈ orderG g l ∧ (i : Int) ∈ refsOf (fs.take j))) → B' i = true) ∧ Keep [bk] w4 wq ∧ Keep [bk] W1 wq) (fun y _ => mF - (RowKit.intOf y).toNat)
    case atStart => exact ⟨0, B, by omega, rfl, HR.out.1, fun i hi hm => by
      rcases hm with hm | ⟨_, hm⟩
      · exact HR.out.2.1 i hi hm
      · simp [refsOf] at hm, HR.out.2.2, Keep.refl _ _⟩
    case round =>
    obtain ⟨j, B', hj, rfl, hrow, hB, hK, hKq⟩ := hrel
    have hbk' := HBK.out
    by_cases hjt : j < mF
    case neg =>
      obtain rfl : j = mF := by omega
      rw [show fs.take j = fs by rw [← HV.out.2.1]; exact List.take_length] at hB
      have HE := Lib.hid (And.intro hrow (And.intro (HV.out.2.2.2.2 B' hB) hK))
      clear hrow hB hK hKq hbk'
      go_wp2
      go_roundw
      case rel => exact ⟨k + 1, B', by omega, by go_num, HE.out.1, HE.out.2.1, HE.out.2.2⟩
      case measure => simp [RowKit.intOf]; omega
    have hbl := H4.out.1.at_ hK (by simp; omega)
    have hW1s : bk < W1.heap.size := HR.out.1.lt
    obtain ⟨bF, oF, rfl, hbF, hcF⟩ := HV.out.1.cells (by rw [HV.out.2.1]; omega)
    obtain ⟨q0, q1, q2, q3, q4⟩ := hcF j (by rw [HV.out.2.1]; exact hjt)
    have hneF : bF ≠ bk := fun e => by
      have h8 := Row.not_int (f := B) HR.out.1 q0
      exact h8 e
    have d0 := (hKq.cell (p := ⟨bF, _, none⟩) hbF (by simpa using hneF)).trans q0
    have d1 := (hKq.cell (p := ⟨bF, _, none⟩) hbF (by simpa using hneF)).trans q1
    have d2 := (hKq.cell (p := ⟨bF, _, none⟩) hbF (by simpa using hneF)).trans q2
    have d3 := (hKq.cell (p := ⟨bF, _, none⟩) hbF (by simpa using hneF)).trans q3
    have d4 := (hKq.cell (p := ⟨bF, _, none⟩) hbF (by simpa using hneF)).trans q4
    have hjl : j < fs.length := by rw [HV.out.2.1]; exact hjt
    have hrt := refsOf_take hjl
    have hvm : fs.getD j z0 ∈ fs := getD_mem hjl
    have hV3 : (fs.getD j z0).K = 3 → (fs.getD j z0).r ∈ refsOf fs := fun h3 => mem_refsOf.2 ⟨_, hvm, h3, rfl⟩
    obtain ⟨V, hV⟩ : ∃ V, fs.getD j z0 = V := ⟨_, rfl⟩
    rw [hV] at d0 d1 d2 d3 d4 hrt hV3
    obtain ⟨x0, x1, x2, x3, x4⟩ := V
    dsimp only at d0 d1 d2 d3 d4 hrt hV3
    have kb : Keep [] wr (wr.alloc (.cells #[.int .i64 x0, .int .i64 x1, .int .u64 x2, .int .u64 x3, .int .i64 x4] 37)) := Keep.alloc _ _
    have hbl6 := hbl.keep kb
    have hrow6 := hrow.keep kb (by simp)
    have hB6 := hB
    clear hcF q0 q1 q2 q3 q4 hV hvm hbl hrow hneF
    by_cases h3 : x0 = 3
    case neg =>
      have h3' : (x0 == 3) = false := by simpa using h3
      rw [if_neg h3, List.append_nil] at hrt
      have HE := Lib.hid (And.intro hrow6 (And.intro hB6 (And.intro (hK.trans kb.of_nil) (And.intro (hKq.trans kb.of_nil) hrt))))
      clear hbl6 hrow6 hB6 hB hK hKq kb hrt hV3 hbk'
      go_wp2
      go_roundw
      case rel => exact ⟨j + 1, B', by omega, by go_num, HE.out.1, by rw [HE.out.2.2.2.2]; exact HE.out.2.1, HE.out.2.2.1, HE.out.2.2.2.1⟩
      case measure => simp [RowKit.intOf]; omega
    subst h3
    rw [if_pos rfl] at hrt
    have hmy := HV.out.2.2.2.1 x4 (hV3 rfl)
    rw [show g.n = n0 from HG.out.2.2.1] at hmy
    obtain ⟨a, rfl⟩ : ∃ a : Nat, x4 = a := ⟨x4.toNat, by omega⟩
    have ha : a < n0 := by omega
    have haI : (a : Int) < n0 := by omega
    have hkI : (k : Int) < n0 := by omega
    obtain ⟨bE, oE, rfl, hbE, hcE⟩ := hbl6.cells (by rw [HRR.out.2]; omega)
    obtain ⟨bE4, oE4, e4, hbE4, _⟩ := H4.out.1.cells (by rw [HRR.out.2]; omega)
    simp only [Option.some.injEq, Addr.mk.injEq, and_true] at e4
    obtain ⟨rfl, rfl⟩ := e4
    have cK := hcE k (by rw [HRR.out.2]; exact hkt)
    have cA := hcE a (by rw [HRR.out.2]; exact ha)
    rw [HO.out k hkt] at cK
    rw [HO.out a ha] at cA
    by_cases hko : k ∈ orderG g l
    case neg =>
      rw [decide_eq_false hko] at cK
      have HE := Lib.hid (And.intro hrow6 (And.intro (fun (i : Nat) hi (hm : ((i : Int) ∈ l ∨ ∃ p, p < k ∧ p ∈ orderG g l ∧ (i : Int) ∈ refsOf (g.at p).fs) ∨ (k ∈ orderG g l ∧ (i : Int) ∈ refsOf (fs.take (j + 1)))) => hB6 i hi (by
        rcases hm with hm | ⟨hm, _⟩
        · exact Or.inl hm
        · exact absurd hm hko)) (And.intro (hK.trans kb.of_nil) (hKq.trans kb.of_nil))))
      clear hbl6 hrow6 hB6 hB hK hKq kb hrt hV3 hbk' hcE cA hko
      go_wp2
      go_roundw
      case rel => exact ⟨j + 1, B', by omega, by go_num, HE.out.1, HE.out.2.1, HE.out.2.2.1, HE.out.2.2.2⟩
      case measure => simp [RowKit.intOf]; omega
    rw [decide_eq_true hko] at cK
    have hao : a ∈ orderG g l := by have := HV.out.2.2.1 hko a (hV3 rfl) (by omega) (by rw [show g.n = n0 from HG.out.2.2.1]; omega); simpa using this
    rw [decide_eq_true hao] at cA
    have cA' : ((wr.alloc (.cells #[.int .i64 3, .int .i64 x1, .int .u64 x2, .int .u64 x3, .int .i64 a] 37)).setCell ⟨bk, a, none⟩ (.bool true)).cell? ⟨bE, oE + a, none⟩ = some (.bool true) := ((Keep.setCell (own := [bk]) _ ⟨bk, a, none⟩ (by simp) (.bool true)).cell (p := ⟨bE, _, none⟩) hbE (by simp; omega)).trans cA
    have fz := hrow6.frozen a
    have ci := hrow6.cell ha
    have kset := Keep.setCell (own := [bk]) (wr.alloc (.cells #[.int .i64 3, .int .i64 x1, .int .u64 x2, .int .u64 x3, .int .i64 a] 37)) ⟨bk, a, none⟩ (by simp) (.bool true)
    have HE := Lib.hid (And.intro ((hrow6.set_ a (.bool true)).congr (f' := fun i => .bool (if i = a then true else B' i)) (fun i hi => by by_cases e : i = a; simp [e]; simp [e])) (And.intro (fun (i : Nat) hi (hm : ((i : Int) ∈ l ∨ ∃ p, p < k ∧ p ∈ orderG g l ∧ (i : Int) ∈ refsOf (g.at p).fs) ∨ (k ∈ orderG g l ∧ (i : Int) ∈ refsOf (fs.take (j + 1)))) => (show (if i = a then true else B' i) = true from by
      by_cases e : i = a
      · simp [e]
      · rw [if_neg e]
        refine hB6 i hi ?_
        rcases hm with hm | ⟨h8, hm⟩
        · exact Or.inl hm
        · rw [hrt] at hm
          rcases List.mem_append.1 hm with hm | hm
          · exact Or.inr ⟨h8, hm⟩
          · simp at hm; omega)) (And.intro ((hK.trans kb.of_nil).trans kset) ((hKq.trans kb.of_nil).trans kset))))
    have hbEk : bE < wr.heap.size := by have := hK.size; omega
    have hvbk : ¬ wr.heap.size = bk := by have := hK.size; have := H5.out.1.lt; have := hKq.size; omega
    have hvbk' : ¬ bk = wr.heap.size := fun e => hvbk e.symm
    clear hbl6 hrow6 hB6 hB hK hKq kb hrt hV3 hbk' hcE cA hao hko kset
    go_wp2
    go_roundw
    case rel => exact ⟨j + 1, fun i => if i = a then true else B' i, by omega, by go_num, HE.out.1, HE.out.2.1, HE.out.2.2.1, HE.out.2.2.2⟩
    case measure => simp [RowKit.intOf]; omega
  obtain rfl : k = n0 := by omega
  have H7 := Lib.hid (And.intro hrow (And.intro (fun (i : Nat) (hi : i < k) (ho : i ∈ orderG g l) => hB i hi (by
    rcases order_back g l ho with h9 | ⟨p, hp, h9⟩
    · exact Or.inl h9
    · refine Or.inr ⟨p, ?_, hp, h9⟩
      have := (orderG_fine g l).2 p hp
      rwa [show g.n = k from HG.out.2.2.1] at this)) hK))
  clear hrow hB hK hbl hKw hbk'
  go_wp2
  go_loopw [101] (fun y wr => ∃ j : Nat, j ≤ k ∧ y = .int .i64 j ∧ Row wr 4 bk k k (fun i => .bool (B i)) ∧ Keep [bk] w4 wr) (fun y _ => k - (RowKit.intOf y).toNat)
  case atStart => exact ⟨0, by omega, rfl, H7.out.1, H7.out.2.2⟩
  case round =>
  obtain ⟨j, hj, rfl, hrow, hK⟩ := hrel
  have hbk' := HBK.out
  by_cases hlt : j < k
  case neg =>
    obtain rfl : j = k := by omega
    have haw := AW.out wr
    have HK := Lib.hid (H4.out.2.1.since hK (by have := hbz; simp; have := H4.out.2.1.size; omega))
    clear hrow hK
    go_wp2_with fail
    (with_reducible refine haw.mono ?_)
    rintro e w9 ⟨rfl, k9⟩
    have HK3 := Lib.hid (HK.out.trans k9)
    clear k9 haw
    go_wp2
    go_ret
    exact ⟨rfl, HK3.out⟩
  have hbl := H4.out.1.at_ hK (by simp; omega)
  obtain ⟨bE, oE, rfl, hbE, hcE⟩ := hbl.cells (by rw [HRR.out.2]; omega)
  have cE := hcE j (by rw [HRR.out.2]; exact hlt)
  rw [HO.out j hlt] at cE
  have ci := hrow.cell hlt
  have hji : (j : Int) < k := by omega
  by_cases hjo : j ∈ orderG g l
  · rw [decide_eq_true hjo] at cE
    rw [H7.out.2.1 j hlt hjo] at ci
    have HE := Lib.hid (And.intro hrow hK)
    clear hrow hK hbl hcE hjo hbk'
    go_wp2
    go_roundw
    case rel => exact ⟨j + 1, by omega, by go_num, HE.out.1, HE.out.2⟩
    case measure => simp [RowKit.intOf]; omega
  · rw [decide_eq_false hjo] at cE
    have HE := Lib.hid (And.intro hrow hK)
    clear hrow hK hbl hcE hjo hbk' ci
    go_wp2
    go_roundw
    case rel => exact ⟨j + 1, by omega, by go_num, HE.out.1, HE.out.2⟩
    case measure => simp [RowKit.intOf]; omega
end Go.Proofs.Ytigclopkoolocaa
