/-
  GraphMore walked. No conditions but what is in memory.
-/
import Derived.Test.YtigclopkoolocaaWGSh
import Derived.Test.YtigclopkoolocaaSrc8
import Derived.Deep.DeepCutAuto
import Derived.Deep.RegionLaw
import Derived.Deep.AppendLies
namespace Go.Flo
open Go.RowKit Go.Bit Go.Proofs.Ytigclopkoolocaa

/-- append of a slice that may be nil, at a step of a region that draws. -/
theorem step_append_src {P : Program} {ops : Array Oper} {o : Oper} {a : Act} {w : World} {K : Act → World → Prop} {Q : Exit → Act → World → Prop} {E : Prop} (hgd : o.guard = none) (s x : Operand) (t : TypeId)
    (ho : o.op = .call { callee := .builtin .append, args := #[s, x], argTypes := #[t, t] })
    (base : Nat) (e : TypeId) (i : TypeInfo) (z : Value) (size bytes : Nat) (ht : P.underlying t = some (.slice e)) (hi : P.info? e = some i) (hz : i.zero = some z)
    (hsize : i.size = size) (hby : i.bytes = bytes) (hzs : z.cells.size = size) (hsz : 0 < size)
    (v : Value) (n : Nat) (xs : List Value) (hs : a.eval s = v) (hown : w.ownsRow base e size v n xs)
    (A : Option Addr) (m c : Nat) (news : List Value) (hx : a.eval x = .slice A m c) (hl : news.length = m * size) (hA : A = none → m = 0) (hnews : ∀ ad, A = some ad → ∀ j u, news[j]? = some u → w.cell? (ad.add j) = some u) (h1 : ∀ u ∈ news, u.oneCell' = true)
    (h63 : n + m ≤ maxLen) (hbytes : (n + m) * bytes ≤ 140737488355328) (hbase : base ≤ w.heap.size)
    (h : ∀ v' w', w'.ownsRow base e size v' (n + m) (xs ++ news) → w.grownBy w' v.ownBlock → (v'.ownBlock = v.ownBlock ∨ v'.ownBlock = some w.heap.size) → K (a.put o.dst v') w') :
    if Region.wanted o (yielded ops a.tmps) = true then Oper.wp P o a w K Q else E := by
  have hw : Region.wanted o (yielded ops a.tmps) = true := by simp [Region.wanted, hgd]
  rw [if_pos hw]
  cases A with
  | some ad =>
    obtain ⟨v', w', hr, h2, h3, h4, h5⟩ := run_append_own_at (P := P) w base t o.type e i z size bytes ht hi hz hsize hby hzs hsz v n xs hown ad m c news hl (hnews ad rfl) h1 h63 hbytes hbase
    unfold Oper.wp execOp
    simp only [ho, resolve, invoke, builtin, Sem.run_bind, Sem.run_pure, Result.andThen_ok, List.map_toArray, List.map_cons, List.map_nil, hs, hx, hr]
    exact h _ _ h2 h3 h5
  | none =>
    obtain rfl := hA rfl
    have hn0 : news = [] := by cases news <;> simp_all
    subst hn0
    unfold Oper.wp execOp
    simp only [ho, resolve, invoke, builtin, Sem.run_bind, Sem.run_pure, Result.andThen_ok, List.map_toArray, List.map_cons, List.map_nil, hs, hx, run_append_from_none w base t o.type e i size ht hi v n c xs hown]
    exact h _ _ (by simpa using hown) (grownBy_refl _ _) (Or.inl rfl)

theorem intl_news {w : World} {A : Option Addr} {c : Nat} {l : List Int} (h : IntL w A c l) : (A = none → l.length = 0) ∧ ∀ ad, A = some ad → ∀ j u, (l.map i64v)[j]? = some u → w.cell? (ad.add j) = some u := by
  refine ⟨fun e => (Ints.nil h e).1, fun ad e j u hu => ?_⟩
  have hj : j < l.length := by
    have := (List.getElem?_eq_some_iff.1 hu).1
    simpa using this
  obtain ⟨b, o, e2, _, hc⟩ := h.cells (by omega)
  rw [e] at e2
  obtain rfl : ad = ⟨b, o, none⟩ := by simpa using e2
  rw [addr_add0, hc j hj, ← hu]
  simp [i64v, List.getD_eq_getElem?_getD, hj]

def pick (O : List Nat) (j : Nat) : List Nat := (List.range j).filter fun i => decide (i ∈ O)
theorem pick_yes {O : List Nat} {j : Nat} (h : j ∈ O) : pick O (j + 1) = pick O j ++ [j] := by unfold pick; rw [List.range_succ, List.filter_append]; simp [h]
theorem pick_no {O : List Nat} {j : Nat} (h : j ∉ O) : pick O (j + 1) = pick O j := by unfold pick; rw [List.range_succ, List.filter_append]; simp [h]
theorem pick_len (O : List Nat) (j : Nat) : (pick O j).length ≤ j := by unfold pick; have := List.length_filter_le (fun i => decide (i ∈ O)) (List.range j); simpa using this
theorem pick_all {O : List Nat} {n : Nat} (hO : ∀ i ∈ O, i < n) (r : Int) : r ∈ natI (pick O n) ↔ 0 ≤ r ∧ r.toNat ∈ O := by
  unfold natI pick
  simp only [List.mem_map, List.mem_filter, List.mem_range, decide_eq_true_eq]
  constructor
  · rintro ⟨i, ⟨_, h⟩, rfl⟩
    exact ⟨by omega, by simpa using h⟩
  · rintro ⟨h0, h⟩
    exact ⟨r.toNat, ⟨hO _ h, h⟩, by omega⟩
end Go.Flo
namespace Go.Proofs.Ytigclopkoolocaa
open Go.RowKit Go.Flo Go.Bit
set_option maxRecDepth 100000

set_option maxHeartbeats 20000000 in
theorem walk_gmore (w : World) (A0 A1 A2 Aa Ab : Option Addr) (c0 c1 c2 ca cb : Nat) (g : Gr) (la lb : List Int) (h : GIn w A0 A1 A2 c0 c1 c2 g) (hla : IntL w Aa ca la) (hlb : IntL w Ab cb lb) :
    Calls Try.prog 8 #[.agg #[.slice A0 g.nodes.length c0, .slice A1 g.roots.length c1, .slice A2 g.weaks.length c2], .slice Aa la.length ca, .slice Ab lb.length cb] w fun e w' => e = .returned (.bool true) ∧ Keep [] w w' := by
  have m1 := fun W (hk : Keep [] w W) => rmayg_any W A0 A1 A2 c0 c1 c2 g (h.keep hk)
  have r1 := fun W A c l (hk : Keep [] w W) (hl : IntL W A c l) => reach_any W A0 A1 A2 A c0 c1 c2 c g l (h.keep hk) hl
  have li := fun W (hk : Keep [] w W) => light12_any W A0 A1 A2 c0 c1 c2 g (h.keep hk)
  have AW := Lib.hid awake12_any
  have hac := hla.nc
  have ham := hla.cap
  have hbc := hlb.nc
  have hbm := hlb.cap
  have hnc := h.nodes.nc
  have hncm := h.nodes.cap
  obtain ⟨n0, hn0⟩ : ∃ n, g.nodes.length = n := ⟨_, rfl⟩
  obtain ⟨qa, hqa⟩ : ∃ q, la.length = q := ⟨_, rfl⟩
  obtain ⟨qb, hqb⟩ : ∃ q, lb.length = q := ⟨_, rfl⟩
  have HG := Lib.hid (And.intro h (And.intro hla (And.intro hlb (And.intro hn0 (And.intro hqa hqb)))))
  rw [hn0] at m1 r1 li hnc ⊢
  rw [hqa] at hac ⊢
  rw [hqb] at hbc ⊢
  clear h hla hlb hn0 hqa hqb
  generalize g.roots.length = n1 at *
  generalize g.weaks.length = n2 at *
  have ka : Keep [] w (w.alloc (.cells #[.slice A0 n0 c0, .slice A1 n1 c1, .slice A2 n2 c2] 25)) := Keep.alloc _ _
  have hba := Blk.new w 25 #[.slice A0 n0 c0, .slice A1 n1 c1, .slice A2 n2 c2]
  obtain ⟨w1, hw1⟩ : ∃ w1, w1 = w.alloc (.cells #[.slice A0 n0 c0, .slice A1 n1 c1, .slice A2 n2 c2] 25) := ⟨_, rfl⟩
  rw [← hw1] at ka hba
  have hf := fun W (hk : Keep [] w1 W) => And.intro (((hba.keep hk (by simp)).cell 0).trans (show _ = some (Value.slice A0 n0 c0) from rfl)) (And.intro (((hba.keep hk (by simp)).cell 1).trans (show _ = some (Value.slice A1 n1 c1) from rfl)) (((hba.keep hk (by simp)).cell 2).trans (show _ = some (Value.slice A2 n2 c2) from rfl)))
  unfold BolPost at r1
  have M1 := Lib.hid (fun W (hk : Keep [] w1 W) => m1 W (ka.trans hk))
  have R1 := Lib.hid (fun W A c l (hk : Keep [] w1 W) => r1 W A c l (ka.trans hk))
  have HF := Lib.hid hf
  have HKA := Lib.hid ka
  have HBA := Lib.hid hba
  have hli := li w1 ka
  obtain ⟨p, hp⟩ : ∃ p, decide (Light12 g) = p := ⟨_, rfl⟩
  rw [hp] at hli
  have HLI := Lib.hid hp
  clear hp m1 r1 hf li ka hba
  cases p with
  | false =>
    go_enter Try.func8, Try.ntmps8
    go_wp2_with fail
    rw [← hw1]
    (with_reducible refine hli.mono ?_)
    rintro e w2 ⟨rfl, k2⟩
    have haw := AW.out w2
    have HK := Lib.hid (HKA.out.trans k2)
    clear k2 hli
    go_wp2_with fail
    (with_reducible refine haw.mono ?_)
    rintro e w3 ⟨rfl, k3⟩
    have HK3 := Lib.hid (HK.out.trans k3)
    clear k3 haw
    go_wp2
    go_ret
    exact ⟨rfl, HK3.out⟩
  | true =>
  by_cases hq : 40 < qa
  · have hq' : (40 : Int) < qa := by omega
    go_enter Try.func8, Try.ntmps8
    go_wp2_with fail
    rw [← hw1]
    (with_reducible refine hli.mono ?_)
    rintro e w2 ⟨rfl, k2⟩
    have haw := AW.out w2
    have HK := Lib.hid (HKA.out.trans k2)
    clear k2 hli
    go_wp2_with fail
    (with_reducible refine haw.mono ?_)
    rintro e w3 ⟨rfl, k3⟩
    have HK3 := Lib.hid (HK.out.trans k3)
    clear k3 haw
    go_wp2
    go_ret
    exact ⟨rfl, HK3.out⟩
  have hq' : ¬ (40 : Int) < qa := by omega
  by_cases hq2 : 40 < qb
  · have hq2' : (40 : Int) < qb := by omega
    go_enter Try.func8, Try.ntmps8
    go_wp2_with fail
    rw [← hw1]
    (with_reducible refine hli.mono ?_)
    rintro e w2 ⟨rfl, k2⟩
    have haw := AW.out w2
    have HK := Lib.hid (HKA.out.trans k2)
    clear k2 hli
    go_wp2_with fail
    (with_reducible refine haw.mono ?_)
    rintro e w3 ⟨rfl, k3⟩
    have HK3 := Lib.hid (HK.out.trans k3)
    clear k3 haw
    go_wp2
    go_ret
    exact ⟨rfl, HK3.out⟩
  have hq2' : ¬ (40 : Int) < qb := by omega
  go_enter Try.func8, Try.ntmps8
  go_wp2_with fail
  rw [← hw1]
  (with_reducible refine hli.mono ?_)
  rintro e w2 ⟨rfl, k2⟩
  have hm := M1.out w2 k2
  have HK2 := Lib.hid k2
  obtain ⟨f0, f1, f2⟩ := HF.out w2 k2
  clear k2 hli hw1
  by_cases hM : MayG g
  case neg =>
    rw [decide_eq_false hM] at hm
    clear hM
    have HKB := Lib.hid (HKA.out.trans HK2.out)
    go_wp2_with fail
    clear f0 f1 f2
    (with_reducible refine hm.mono ?_)
    rintro e w9 ⟨rfl, k9⟩
    have haw := AW.out w9
    have HK := Lib.hid (HKB.out.trans k9)
    clear k9 hm
    go_wp2_with fail
    (with_reducible refine haw.mono ?_)
    rintro e w10 ⟨rfl, k10⟩
    have HK3 := Lib.hid (HK.out.trans k10)
    clear k10 haw
    go_wp2
    go_ret
    exact ⟨rfl, HK3.out⟩
  rw [decide_eq_true hM] at hm
  have hR : ∀ l, reachB g l = (List.range n0).map (fun i => decide (i ∈ orderG g l)) := fun l => by
    rw [show reachB g l = (List.range g.n).map (fun i => decide (i ∈ orderG g l)) from if_pos hM, show g.n = n0 from HG.out.2.2.2.1]
  have hRl : ∀ l, (reachB g l).length = n0 := fun l => by rw [hR]; simp
  have hRg : ∀ l i, i < n0 → (reachB g l).getD i false = decide (i ∈ orderG g l) := fun l i hi => by
    rw [hR]
    simp [List.getD_eq_getElem?_getD, hi]
  have HRR := Lib.hid (And.intro hRl hRg)
  have h96 := hM.1
  rw [show g.n = n0 from HG.out.2.2.2.1] at h96
  clear hM hR hRl hRg
  go_wp2_with fail
  (with_reducible refine hm.mono ?_)
  rintro e w3 ⟨rfl, k3⟩
  have k3' := HK2.out.trans k3
  have HK3 := Lib.hid k3'
  clear k3 k3' hm f0 f1 f2
  obtain ⟨f0, f1, f2⟩ := HF.out w3.drew (HK3.out.trans (Keep.drew _))
  obtain ⟨g0, g1, g2⟩ := HF.out (w3.alloc (.cells #[] 3)).drew ((HK3.out.trans (Keep.alloc _ _)).trans (Keep.drew _))
  go_upto_region 3 with fail
  go_cut [7, 8] (fun s7 s8 wx => ∃ E x G y, s7 = .slice E n0 x ∧ s8 = .slice G n0 y ∧ BoolL wx E x (reachB g la) ∧ BoolL wx G y (reachB g (la ++ lb)) ∧ Keep [] w1 wx)
  case first =>
    have RA := Lib.hid (fun W (hk : Keep [] w1 W) => (show Calls Try.prog 14 #[.agg #[.slice A0 n0 c0, .slice A1 n1 c1, .slice A2 n2 c2], .slice Aa qa ca] W (fun e w' => ∃ E x, e = .returned (.slice E n0 x) ∧ BoolL w' E x (reachB g la) ∧ Keep [] W w') from by
      have := R1.out W Aa ca la hk (HG.out.2.1.keep (HKA.out.trans hk))
      rwa [HRR.out.1, HG.out.2.2.2.2.1] at this))
    have RB := Lib.hid (fun W A c (hk : Keep [] w1 W) (hi : IntL W A c (la ++ lb)) => (show Calls Try.prog 14 #[.agg #[.slice A0 n0 c0, .slice A1 n1 c1, .slice A2 n2 c2], .slice A (la.length + lb.length) c] W (fun e w' => ∃ E x, e = .returned (.slice E n0 x) ∧ BoolL w' E x (reachB g (la ++ lb)) ∧ Keep [] W w') from by
      have := R1.out W A c (la ++ lb) hk hi
      rwa [HRR.out.1, List.length_append] at this))
    have HAB := Lib.hid (fun W (hk : Keep [] w1 W) => And.intro (HG.out.2.1.keep (HKA.out.trans hk)) (HG.out.2.2.1.keep (HKA.out.trans hk)))
    have hla2 : la.length = qa := HG.out.2.2.2.2.1
    have hlb2 : lb.length = qb := HG.out.2.2.2.2.2
    have HLA := Lib.hid (And.intro hla2 hlb2)
    have hbox3 := (HBA.out.keep HK3.out (by simp)).lt
    have hs13 := HK3.out.size
    clear hla2 hlb2
    -- what an append of a, then of b, comes to, at whatever world (w7) the new row (hh) stands
    have AP1 := Lib.hid (fun (w7 : World) (hh : Nat) (E : Option Addr) (x : Nat) (k7 : Keep [] w1 w7) (hw : w1.heap.size ≤ hh) (hb : BoolL w7 E x (reachB g la)) (hne : ∀ b o, E = some ⟨b, o, none⟩ → 0 < n0 → b ≠ hh) (v8 : Value) (w8 : World)
      (hown8 : w8.ownsRow hh 3 1 v8 (0 + qa) ([] ++ la.map i64v)) (hgrow8 : w7.grownBy w8 (some hh)) (hor : v8.ownBlock = some hh ∨ v8.ownBlock = some w7.heap.size) =>
      (show ∃ A8 c8, v8 = .slice A8 (0 + qa) c8 ∧ Keep [hh] w7 w8 ∧ Keep [] w1 w8 from by
        obtain ⟨A8, c8, rfl⟩ := owns_sl hown8
        have k78 : Keep [hh] w7 w8 := Keep.grown hgrow8 (fun k _ e => by simp at e; simp [e])
        exact ⟨A8, c8, rfl, k78, k7.since k78 (by simpa using hw)⟩))
    have AP2 := Lib.hid (fun (w7 w8 : World) (hh : Nat) (E : Option Addr) (x : Nat) (k7 : Keep [] w1 w7) (hw : w1.heap.size ≤ hh) (hb : BoolL w7 E x (reachB g la)) (hne : ∀ b o, E = some ⟨b, o, none⟩ → 0 < n0 → b ≠ hh) (v8 v9 : Value) (w9 : World) (k78 : Keep [hh] w7 w8)
      (hor : v8.ownBlock = some hh ∨ v8.ownBlock = some w7.heap.size)
      (hown9 : w9.ownsRow hh 3 1 v9 (0 + qa + qb) (([] ++ la.map i64v) ++ lb.map i64v)) (hgrow9 : w8.grownBy w9 v8.ownBlock) =>
      (show ∃ A9 c9, v9 = .slice A9 (la.length + lb.length) c9 ∧ IntL w9 A9 c9 (la ++ lb) ∧ BoolL w9 E x (reachB g la) ∧ Keep [] w1 w9 from by
        have k79 : Keep [hh] w7 w9 := k78.later (own' := v8.ownBlock.toList) (Keep.grown hgrow9 (fun k _ e => by simp [e])) (fun y hy => by
          rcases hor with e | e
          · rw [e] at hy; simp at hy; exact Or.inr (by simp [hy])
          · rw [e] at hy; simp at hy; exact Or.inl (by omega))
        have hl : (la ++ lb).length = 0 + qa + qb := by rw [List.length_append, HLA.out.1, HLA.out.2]; omega
        obtain ⟨A9, c9, e9, h9⟩ := owns_intl (l := la ++ lb) (by rw [hl, List.map_append]; exact hown9)
        rw [List.length_append] at e9
        refine ⟨A9, c9, e9, h9, ?_, k7.since k79 (by simpa using hw)⟩
        refine ⟨hb.nc, hb.cap, fun h0 => ?_⟩
        obtain ⟨b, o, h1, h3, h4⟩ := hb.cells h0
        have hbn : b ∉ [hh] := by simpa using hne b o h1 (by rwa [HRR.out.1] at h0)
        exact ⟨b, o, h1, Nat.lt_of_lt_of_le h3 k79.size, fun j hj => (k79.cell (p := ⟨b, _, none⟩) h3 hbn).trans (h4 j hj)⟩))
    obtain ⟨ii, hii, hz0, hz1, hz2⟩ := info_of intparts
    have kA : Keep [] w1 (w3.alloc (.cells #[] 3)).drew := (HK3.out.trans (Keep.alloc _ _)).trans (Keep.drew _)
    have oA : (w3.alloc (.cells #[] 3)).drew.ownsRow w3.heap.size 3 1 (.slice (some ⟨w3.heap.size, 0, none⟩) 0 0) 0 [] := owns_kept (World.ownsRow_made w3 #[] 0 (Nat.le_refl _) (Nat.zero_le _) rfl) (Keep.drew _)
    have bA : Blk (w3.alloc (.cells #[] 3)).drew w3.heap.size 3 #[] := (Blk.new w3 3 #[]).keep (Keep.drew (own := []) _) (by simp)
    have HA := Lib.hid (And.intro kA (And.intro oA bA))
    clear kA oA bA
    have NEA := Lib.hid (fun w6 E x (hb1 : BoolL w6 E x (reachB g la)) (k6 : Keep [] (w3.alloc (.cells #[] 3)).drew w6) => (show ∀ b o, E = some ⟨b, o, none⟩ → 0 < n0 → b ≠ w3.heap.size from fun b o e h0 e2 => by
      obtain ⟨b', o', e3, _, h4⟩ := hb1.cells (by rw [HRR.out.1]; exact h0)
      rw [e] at e3
      simp only [Option.some.injEq, Addr.mk.injEq, and_true] at e3
      have h9 := h4 0 (by rw [HRR.out.1]; exact h0)
      rw [← e3.1, e2, (HA.out.2.2.keep k6 (by simp)).cell] at h9
      simp at h9))
    have NEB := Lib.hid (fun w6 E x (hb1 : BoolL w6 E x (reachB g la)) => (show ∀ b o, E = some ⟨b, o, none⟩ → 0 < n0 → b ≠ w6.heap.size from fun b o e h0 e2 => by
      obtain ⟨b', o', e3, h5, h4⟩ := hb1.cells (by rw [HRR.out.1]; exact h0)
      rw [e] at e3
      simp only [Option.some.injEq, Addr.mk.injEq, and_true] at e3
      omega))
    go_wp2_with fail
    go_region_law (first
      | (go_simp; go_at_call 14; with_reducible refine (RA.out _ HA.out.1).mono ?_; rintro e w6 ⟨E, x, rfl, hb1, k6⟩; have kk6 := HA.out.1.trans k6; obtain ⟨p0, p1, p2⟩ := HF.out w6 kk6; have hownA := owns_kept HA.out.2.1 k6; have hbA : w3.heap.size ≤ w6.heap.size := (by have := HA.out.2.2.lt; have := k6.size; omega); have hneA : ∀ b o, E = some ⟨b, o, none⟩ → 0 < n0 → b ≠ w3.heap.size := NEA.out w6 E x hb1 k6)
      | (go_simp; go_at_call 14; with_reducible refine (RA.out _ (HK3.out.trans (Keep.drew _))).mono ?_; rintro e w6 ⟨E, x, rfl, hb1, k6⟩; have kk6 := (HK3.out.trans (Keep.drew _)).trans k6; obtain ⟨p0, p1, p2⟩ := HF.out w6 kk6; have kk7 := kk6.trans (Keep.alloc (own := []) w6 (.cells #[] 3)); obtain ⟨q0, q1, q2⟩ := HF.out _ kk7; have hb7 := hb1.keep (Keep.alloc w6 (.cells #[] 3)); have hownB : (w6.alloc (.cells #[] 3)).ownsRow w6.heap.size 3 1 (.slice (some ⟨w6.heap.size, 0, none⟩) 0 0) 0 [] := (World.ownsRow_made w6 #[] 0 (Nat.le_refl _) (Nat.zero_le _) rfl); have hneB : ∀ b o, E = some ⟨b, o, none⟩ → 0 < n0 → b ≠ w6.heap.size := NEB.out w6 E x hb1; have hszB : w1.heap.size ≤ w6.heap.size := kk6.size)
      | (refine step_append_src rfl (.tmp 36) (.tmp 37) 23 rfl w3.heap.size 3 ii (.int .i64 0) 1 8 Try.underlying23 hii hz0 hz1 hz2 rfl (by omega) _ 0 [] (by first | rfl | simp [Act.eval, Act.put]) hownA Aa qa ca (la.map i64v) (by first | rfl | simp [Act.eval, Act.put]) (by rw [List.length_map, HLA.out.1, Nat.mul_one]) (fun e => by rw [← HLA.out.1]; exact (intl_news (HAB.out _ kk6).1).1 e) (intl_news (HAB.out _ kk6).1).2 (by intro z hz; obtain ⟨t, _, rfl⟩ := List.mem_map.1 hz; rfl) (by unfold maxLen; omega) (by omega) hbA ?_; intro v8 w8 hown8 hgrow8 hor8; have hap := AP1.out w6 w3.heap.size E x kk6 hs13 hb1 hneA v8 w8 hown8 hgrow8 hor8; obtain ⟨A8, c8, rfl, k78, kk8⟩ := hap; obtain ⟨s0, s1, s2⟩ := HF.out w8 kk8; have hap2 := fun v9 w9 => AP2.out w6 w8 w3.heap.size E x kk6 hs13 hb1 hneA _ v9 w9 k78 hor8; have hbs := hown8; have hbw : w3.heap.size ≤ w8.heap.size := Nat.le_trans hbA k78.size)
      | (refine step_append_src rfl (.tmp 36) (.tmp 37) 23 rfl w6.heap.size 3 ii (.int .i64 0) 1 8 Try.underlying23 hii hz0 hz1 hz2 rfl (by omega) _ 0 [] (by first | rfl | simp [Act.eval, Act.put]) hownB Aa qa ca (la.map i64v) (by first | rfl | simp [Act.eval, Act.put]) (by rw [List.length_map, HLA.out.1, Nat.mul_one]) (fun e => by rw [← HLA.out.1]; exact (intl_news (HAB.out _ kk7).1).1 e) (intl_news (HAB.out _ kk7).1).2 (by intro z hz; obtain ⟨t, _, rfl⟩ := List.mem_map.1 hz; rfl) (by unfold maxLen; omega) (by omega) (by simp) ?_; intro v8 w8 hown8 hgrow8 hor8; have hap := AP1.out _ w6.heap.size E x kk7 hszB hb7 hneB v8 w8 hown8 hgrow8 hor8; obtain ⟨A8, c8, rfl, k78, kk8⟩ := hap; obtain ⟨s0, s1, s2⟩ := HF.out w8 kk8; have hap2 := fun v9 w9 => AP2.out _ w8 w6.heap.size E x kk7 hszB hb7 hneB _ v9 w9 k78 hor8; have hbs := hown8; have hbw : w6.heap.size ≤ w8.heap.size := (by have := k78.size; simp at this; omega))
      | (refine step_append_src rfl (.tmp 38) (.tmp 39) 23 rfl _ 3 ii (.int .i64 0) 1 8 Try.underlying23 hii hz0 hz1 hz2 rfl (by omega) _ (0 + qa) ([] ++ la.map i64v) (by first | rfl | simp [Act.eval, Act.put]) hbs Ab qb cb (lb.map i64v) (by first | rfl | simp [Act.eval, Act.put]) (by rw [List.length_map, HLA.out.2, Nat.mul_one]) (fun e => by rw [← HLA.out.2]; exact (intl_news (HAB.out _ kk8).2).1 e) (intl_news (HAB.out _ kk8).2).2 (by intro z hz; obtain ⟨t, _, rfl⟩ := List.mem_map.1 hz; rfl) (by unfold maxLen; omega) (by omega) hbw ?_; intro v9 w9 hown9 hgrow9 _; have hap := hap2 v9 w9 hown9 hgrow9; obtain ⟨A9, c9, rfl, hi9, hb9, kk9⟩ := hap; obtain ⟨t0, t1, t2⟩ := HF.out w9 kk9)
      | (go_simp; go_at_call 14; with_reducible refine (RB.out _ _ _ kk9 hi9).mono ?_; rintro e w10 ⟨G, y, rfl, hb2, k10⟩; have hb10 := hb9.keep k10; have kk10 := kk9.trans k10; obtain ⟨u0, u1, u2⟩ := HF.out w10 kk10))
    all_goals
      go_wp2_with fail
      go_meet
      exact ⟨E, x, G, y, rfl, rfl, hb10, hb2, kk10⟩
  case rest =>
  obtain ⟨E, x, G, y, rfl, rfl, hbx, hby, hK⟩ := hcut
  clear f0 f1 f2 g0 g1 g2
  obtain ⟨f0, f1, f2⟩ := HF.out wc hK
  have hxc := hbx.nc
  have hxm := hbx.cap
  have hyc := hby.nc
  have hym := hby.cap
  rw [HRR.out.1] at hxc hyc
  have HC := Lib.hid (And.intro hbx (And.intro hby hK))
  have t1 : ((n0 : Int) == n0) = true := by simp
  have t2 : ((n0 : Int) != n0) = false := by simp
  clear hbx hby hK
  go_wp2
  clear f0 f1 f2
  go_loopw [9, 57] (fun z v wr => ∃ j : Nat, j ≤ n0 ∧ v = .int .i64 j ∧ wr.ownsRow wc.heap.size 3 1 z (pick (orderG g la) j).length ((pick (orderG g la) j).map natv) ∧ Keep [] wc wr) (fun _ v _ => n0 - (RowKit.intOf v).toNat)
  case atStart => exact ⟨0, by omega, rfl, ⟨rfl, Or.inl ⟨rfl, rfl⟩⟩, Keep.refl _ _⟩
  case round =>
  rename_i zv _
  obtain ⟨j, hj, rfl, how, hK⟩ := hrel
  by_cases hlt : j < n0
  case pos =>
    obtain ⟨bE, oE, e1, hbE, hcE⟩ := (HC.out.1.keep hK).cells (by rw [HRR.out.1]; omega)
    obtain ⟨bG, oG, e2, hbG, hcG⟩ := (HC.out.2.1.keep hK).cells (by rw [HRR.out.1]; omega)
    subst e1
    subst e2
    have cE := hcE j (by rw [HRR.out.1]; exact hlt)
    have cG := hcG j (by rw [HRR.out.1]; exact hlt)
    rw [HRR.out.2 _ j hlt] at cE cG
    have hjI : (j : Int) < n0 := by omega
    have hpl := pick_len (orderG g la) j
    by_cases hjo : j ∈ orderG g la
    case neg =>
      rw [decide_eq_false hjo] at cE
      have HE := Lib.hid (And.intro (pick_no hjo) (And.intro how hK))
      clear hcE hcG cG how hK hjo
      go_wp2
      go_roundw
      case rel => exact ⟨j + 1, by omega, by go_num, by rw [HE.out.1]; exact HE.out.2.1, HE.out.2.2⟩
      case measure => simp [RowKit.intOf]; omega
    rw [decide_eq_true hjo] at cE
    rw [decide_eq_true (order_more g la lb hjo)] at cG
    obtain ⟨L, hL⟩ : ∃ L, (pick (orderG g la) j).length = L := ⟨_, rfl⟩
    rw [hL] at how hpl
    obtain ⟨AZ, cZ, rfl⟩ := owns_sl how
    have HL := Lib.hid hL
    have hwz := hK.size
    have HPY := Lib.hid (pick_yes hjo)
    have HOA := Lib.hid (owns_kept how (Keep.alloc (own := []) wr (.cells #[.int .i64 (j : Nat)] 3)))
    have HNW := Lib.hid (one_new6 wr (.int .i64 (j : Nat)) 3)
    have HKK := Lib.hid (hK.trans (Keep.alloc (own := []) wr (.cells #[.int .i64 (j : Nat)] 3)))
    obtain ⟨ii, hii, hz0, hz1, hz2⟩ := info_of intparts
    clear hcE hcG how hK hjo hL
    go_wp2_with (at_builtin; refine wpList_append_own_at _ rfl (.tmp 75) (.tmp 77) 23 rfl wc.heap.size 3 ii (.int .i64 0) 1 8 Try.underlying23 hii hz0 hz1 hz2 rfl (by omega) (.slice AZ L cZ) L ((pick (orderG g la) j).map natv) rfl HOA.out ⟨wr.heap.size, 0, none⟩ 1 1 [.int .i64 (j : Nat)] rfl rfl HNW.out ?c3 ?c4 ?c5 ?c6 ?_)
    (case c3 => first | rfl | (intro z hz; simp at hz; subst hz; rfl))
    (case c4 => unfold maxLen; omega)
    (case c5 => omega)
    (case c6 => first | omega | (simp; omega))
    intro v' w' hown hgrow _ _
    have k9 : Keep [] wc w' := HKK.out.later (own' := (Value.slice AZ L cZ).ownBlock.toList) (Keep.grown hgrow (fun k _ e => by simp [e])) (fun q hq => by
      have := (HOA.out.lt q (by simpa using hq)).1
      exact Or.inl (by omega))
    have HE := Lib.hid (And.intro hown k9)
    clear hown hgrow k9
    go_wp2
    go_roundw
    (case rel => exact ⟨j + 1, by omega, by go_num, by rw [HPY.out, List.length_append, List.map_append, HL.out]; exact HE.out.1, HE.out.2⟩)
    (case measure => simp [RowKit.intOf]; omega)
  obtain rfl : j = n0 := by omega
  rw [natv_map, ← natI_len] at how
  obtain ⟨AL, cL, rfl, hil⟩ := owns_intl how
  have hkk := HC.out.2.2.trans hK
  have hre := R1.out wr AL cL _ hkk hil
  have hsame : reachB g (natI (pick (orderG g la) j)) = reachB g la := by
    apply List.ext_getElem (by rw [HRR.out.1, HRR.out.1])
    intro i h1 h2
    rw [HRR.out.1] at h1
    have e1 := HRR.out.2 (natI (pick (orderG g la) j)) i h1
    have e2 := HRR.out.2 la i h1
    rw [List.getD_eq_getElem?_getD, List.getElem?_eq_getElem (by rw [HRR.out.1]; exact h1)] at e1 e2
    simp only [Option.getD_some] at e1 e2
    rw [e1, e2]
    have hfi : ∀ i ∈ orderG g la, i < j := fun i hi => by have := (orderG_fine g la).2 i hi; rwa [show g.n = j from HG.out.2.2.2.1] at this
    rw [Bool.eq_iff_iff]
    simp only [decide_eq_true_eq]
    exact order_again g la _ (fun r => pick_all hfi r)
  rw [hsame, HRR.out.1, natI_len] at hre
  have hlm := hil.nc
  have hlc := hil.cap
  rw [natI_len] at hlm
  obtain ⟨f0, f1, f2⟩ := HF.out wr hkk
  have HKK := Lib.hid (And.intro hkk hK)
  obtain ⟨L, hL⟩ : ∃ L, (pick (orderG g la) j).length = L := ⟨_, rfl⟩
  rw [natI_len, hL]
  rw [hL] at hre hlm
  clear how hil hkk hK hsame hL
  go_wp2_with fail
  (with_reducible refine hre.mono ?_)
  rintro e w6 ⟨Z, z, rfl, hbz, k6⟩
  have hzc := hbz.nc
  have hzm := hbz.cap
  rw [HRR.out.1] at hzc
  have H6 := Lib.hid (And.intro hbz (And.intro (HC.out.1.keep (HKK.out.2.trans k6)) (HKK.out.1.trans k6)))
  clear hre hbz k6 f0 f1 f2
  go_wp2
  go_loopw [85] (fun v wr => ∃ i : Nat, i ≤ j ∧ v = .int .i64 i ∧ Keep [] w6 wr) (fun v _ => j - (RowKit.intOf v).toNat)
  case atStart => exact ⟨0, by omega, rfl, Keep.refl _ _⟩
  case round =>
  obtain ⟨i, hi, rfl, hK⟩ := hrel
  by_cases hlt2 : i < j
  case neg =>
    have haw := AW.out wr
    have HK := Lib.hid (HKA.out.trans (H6.out.2.2.trans hK))
    clear hK
    go_wp2_with fail
    (with_reducible refine haw.mono ?_)
    rintro e w9 ⟨rfl, k9⟩
    have HK3 := Lib.hid (HK.out.trans k9)
    clear k9 haw
    go_wp2
    go_ret
    exact ⟨rfl, HK3.out⟩
  obtain ⟨bE, oE, e1, hbE, hcE⟩ := (H6.out.2.1.keep hK).cells (by rw [HRR.out.1]; omega)
  obtain ⟨bZ, oZ, e2, hbZ, hcZ⟩ := (H6.out.1.keep hK).cells (by rw [HRR.out.1]; omega)
  subst e1
  subst e2
  have cE := hcE i (by rw [HRR.out.1]; exact hlt2)
  have cZ := hcZ i (by rw [HRR.out.1]; exact hlt2)
  generalize (reachB g la).getD i false = bb at *
  have hiI : (i : Int) < j := by omega
  have s1 : (bb == bb) = true := by simp
  have s2 : (bb != bb) = false := by simp
  have HK := Lib.hid hK
  clear hcE hcZ hK
  go_wp2
  go_quiet (fail)
  go_wp2
  go_roundw
  case rel => exact ⟨i + 1, by omega, by go_num, HK.out.trans (Keep.dr (Dr.drewN _ _))⟩
  case measure => simp [RowKit.intOf]; omega
end Go.Proofs.Ytigclopkoolocaa
