/-
  Package layout: parseKinds, Parse. No conditions but what is in memory.
-/
import Derived.Test.YtihfejbkojhkaaaLps1
import Derived.Test.YtihfejbkojhkaaaLay3
import Derived.Deep.DeepCutAuto
import Derived.Deep.RegionHeld3
namespace Go.Proofs.Ytihfejbkojhkaaa
open Go.RowKit Go.Flo Go.Bit
set_option maxRecDepth 100000

/-- The first n words are kinds. -/
def PksOk (n L : Nat) (W : Nat → Nat) : Prop := n ≤ L ∧ ∀ i, i < n → Up (W i)
/-- What parseKinds tells. -/
def PksPost (n L : Nat) (W : Nat → Nat) (w : World) (e : Ending) (w' : World) : Prop :=
  (PksOk n L W ∧ ∃ g, e = .returned (.tuple #[.slice (some ⟨g, 0, none⟩) n n, .bool true]) ∧ KNew w.heap.size w' (some ⟨g, 0, none⟩) n n (fun i => pm (W i)) (fun i => pf (W i)) ∧ Keep [] w w') ∨
  (¬ PksOk n L W ∧ e = .returned (.tuple #[.slice none 0 0, .bool false]) ∧ Keep [] w w')
def PksRel (w : World) (n : Nat) (W : Nat → Nat) (x : Value) (wr : World) : Prop :=
  ∃ (j : Nat) (cs : Nat → Nat), j ≤ n ∧ x = .int .i64 j ∧ Row wr 60 w.heap.size n n (fun i => if i < j then .slice (some ⟨cs i, 0, none⟩) (pm (W i)) (pm (W i)) else .slice none 0 0) ∧
    (∀ i, i < j → Ints wr (some ⟨cs i, 0, none⟩) (pm (W i)) (pm (W i)) (pf (W i)) ∧ w.heap.size < cs i ∧ Up (W i)) ∧ Keep [] w wr

set_option maxHeartbeats 1000000 in
theorem parseKinds_any (w : World) (A : Option Addr) (L cap n : Nat) (W : Nat → Nat) (h : Wrd w A L cap W) (hn : n ≤ 16) :
    Calls Try.prog 51 #[.slice A L cap, .int .i64 n] w (PksPost n L W w) := by
  by_cases c1 : n ≤ L
  case neg =>
    have c2 : L < n := by omega
    have HN := Lib.hid (show ¬ PksOk n L W from fun h => c1 h.1)
    clear c1
    go_enter Try.func51, Try.ntmps51
    go_wp2
    go_ret2
    exact Or.inr ⟨HN.out, rfl, Keep.refl _ _⟩
  have c2 : ¬ L < n := by omega
  have hmk := fun W => mk_kinds n (by omega) W
  have HW := Lib.hid h
  have hnc := h.nc
  have hcc := h.cap
  clear h
  go_enter Try.func51, Try.ntmps51
  go_wp2
  clear hmk
  go_loopw [18] (fun x wr => PksRel w n W x wr) (fun x _ => n - (intOf x).toNat)
  case atStart =>
    exact ⟨0, fun _ => 0, by omega, rfl, (Blk.made (by unfold maxLen; omega) (Blk.new w 60 (madeCells #[.slice none 0 0] n))).congr (fun i hi => by simp), fun i hi => by omega, Keep.alloc _ _⟩
  case round =>
  obtain ⟨j, cs, hj, rfl, hrow, hok, hK⟩ := hrel
  by_cases hlt : j < n
  case neg =>
    obtain rfl : j = n := by omega
    have HF := Lib.hid (show PksOk j L W ∧ KNew w.heap.size wr (some ⟨w.heap.size, 0, none⟩) j j (fun i => pm (W i)) (fun i => pf (W i)) from
      ⟨⟨c1, fun i hi => (hok i hi).2.2⟩, Nat.le_refl _, fun h0 => ⟨w.heap.size, 0, rfl, Nat.le_refl _, hrow.lt, fun i hi => ⟨some ⟨cs i, 0, none⟩, pm (W i), by rw [Nat.zero_add, hrow.cell hi]; simp [hi], (hok i hi).1, fun a ea => by injection ea with ea; subst ea; exact Nat.le_of_lt (hok i hi).2.1⟩⟩, by omega⟩)
    clear hrow hok
    go_wp2
    go_ret2
    exact Or.inl ⟨HF.out.1, w.heap.size, rfl, HF.out.2, hK⟩
  obtain ⟨b, o, rfl, hb, hc⟩ := (HW.out.keep hK).cells (by omega)
  have cj := hc j (by omega)
  have hx := HW.out.lt j
  have hp := parseKind_any (W j) hx wr
  have hsz := hrow.lt
  have HH := Lib.hid (And.intro hrow (And.intro hok hK))
  clear hc hrow hok hK
  by_cases hU : Up (W j)
  case neg =>
    have HN := Lib.hid (show ¬ PksOk n L W from fun h => hU (h.2 j hlt))
    unfold PkPost at hp
    rw [show decide (Up (W j)) = false from decide_eq_false hU] at hp
    clear hU
    go_wp2_with fail
    (with_reducible refine hp.mono ?_)
    rintro e w3 ⟨g2, rfl, hI2, hg2, k3⟩
    have KS := Lib.hid (show Keep [] w3 (w3.alloc (.cells #[.slice (some ⟨g2, 0, none⟩) (pm (W j)) (pm (W j))] 60)) from Keep.alloc _ _)
    go_wp2
    go_ret2
    exact Or.inr ⟨HN.out, rfl, (HH.out.2.2.trans k3).trans KS.out⟩
  unfold PkPost at hp
  rw [show decide (Up (W j)) = true from decide_eq_true hU] at hp
  have HU := Lib.hid hU
  clear hU
  go_wp2_with fail
  (with_reducible refine hp.mono ?_)
  rintro e w3 ⟨g2, rfl, hI2, hg2, k3⟩
  have hs3 : w.heap.size < w3.heap.size := Nat.lt_of_lt_of_le hsz k3.size
  have hne : ¬ w.heap.size = w3.heap.size := by omega
  have hne2 : ¬ w3.heap.size = w.heap.size := by omega
  have hrow3 := HH.out.1.keep k3 (by simp)
  have y0 := hrow3.cell hlt
  have y1 := hrow3.frozen j
  rw [show (if j < j then Value.slice (some ⟨cs j, 0, none⟩) (pm (W j)) (pm (W j)) else .slice none 0 0) = .slice none 0 0 by simp] at y0
  have HR3 := Lib.hid hrow3
  clear hrow3
  go_wp2
  go_roundw
  case rel =>
    obtain ⟨_, hok, hK⟩ := HH.out
    have ks : Keep [w.heap.size] w3 (w3.setCell ⟨w.heap.size, j, none⟩ (.slice (some ⟨g2, 0, none⟩) (pm (W j)) (pm (W j)))) := Keep.setCell _ _ (by simp) _
    have kA : Keep [] (w3.setCell ⟨w.heap.size, j, none⟩ (.slice (some ⟨g2, 0, none⟩) (pm (W j)) (pm (W j)))) ((w3.setCell ⟨w.heap.size, j, none⟩ (.slice (some ⟨g2, 0, none⟩) (pm (W j)) (pm (W j)))).alloc (.cells #[.slice (some ⟨g2, 0, none⟩) (pm (W j)) (pm (W j))] 60)) := Keep.alloc _ _
    refine ⟨j + 1, fun i => if i = j then g2 else cs i, by omega, by go_num, ((HR3.out.set_ j _).congr (fun i hi => ?_)).keep kA (by simp), fun i hi => ?_, ((hK.trans k3).since ks (by simp)).trans kA⟩
    · by_cases e : i = j
      · subst e; simp
      · by_cases e2 : i < j
        · simp [e, e2, Nat.lt_succ_of_lt e2]
        · have e3 : ¬ i < j + 1 := by omega
          simp [e, e2, e3]
    · by_cases e : i = j
      · subst e
        simp only [if_true]
        exact ⟨(hI2.keepO ks (fun a ea => by injection ea with ea; subst ea; simp; omega)).keep kA, by omega, HU.out⟩
      · simp only [e, if_false]
        obtain ⟨g1, g3, g4⟩ := hok i (by omega)
        exact ⟨((g1.keep k3).keepO ks (fun a ea => by injection ea with ea; subst ea; simp; omega)).keep kA, g3, g4⟩
  case measure => simp [intOf]; omega

/-- What Parse tells. -/
def PPost (L : Nat) (W : Nat → Nat) (w : World) (e : Ending) (w' : World) : Prop :=
  (POk L W ∧ ∃ A cap, e = .returned (.tuple #[.agg #[.slice A (W 8) cap, .int .i64 (W 4 : Nat), .int .i64 (W 5 : Nat), .int .i64 (W 6 : Nat), .int .i64 (W 7 : Nat), .int .i64 (W 1 : Nat), .int .i64 (W 2 : Nat), .int .i64 (W 3 : Nat)], .int .i64 0]) ∧ KRow w' A (W 8) cap (fun i => pm (W (9 + i))) (fun i => pf (W (9 + i))) ∧ Keep [] w w') ∨
  (¬ POk L W ∧ e = .returned (.tuple #[.agg #[.slice none 0 0, .int .i64 0, .int .i64 0, .int .i64 0, .int .i64 0, .int .i64 0, .int .i64 0, .int .i64 0], .int .i64 8]) ∧ Keep [] w w')
theorem cell_alloc_lt (w : World) (cs : Array Value) (t : TypeId) {b k : Nat} (hb : b < w.heap.size) : (w.alloc (.cells cs t)).cell? ⟨b, k, none⟩ = w.cell? ⟨b, k, none⟩ := World.cell?_alloc_lt _ _ _ hb
theorem zero25 : (Try.prog.info? 25).map (·.size) = some (#[.slice none 0 0, .int .i64 0, .int .i64 0, .int .i64 0, .int .i64 0, .int .i64 0, .int .i64 0, .int .i64 0] : Array Value).size := by kernel_rfl
theorem zero1 : (#[.slice none 0 0, .int .i64 0, .int .i64 0, .int .i64 0, .int .i64 0, .int .i64 0, .int .i64 0, .int .i64 0] : Array Value).all (·.oneCell') = true := by kernel_rfl
theorem number_eq (x : Nat) (y : Int) (h : wrap64 (x : Int) = y) (w : World) : Calls Try.prog 52 #[.int .u64 x] w fun e w' => e = .returned (.int .i64 y) ∧ w = w' := by
  subst h
  exact number_any x w

set_option maxHeartbeats 2000000 in
theorem parse_any (w : World) (A : Option Addr) (L cap : Nat) (W : Nat → Nat) (h : Wrd w A L cap W) :
    Calls Try.prog 33 #[.slice A L cap] w (PPost L W w) := by
  have hZ := Blk.new w 25 #[.slice none 0 0, .int .i64 0, .int .i64 0, .int .i64 0, .int .i64 0, .int .i64 0, .int .i64 0, .int .i64 0]
  have k1 : Keep [] w (w.alloc (.cells #[.slice none 0 0, .int .i64 0, .int .i64 0, .int .i64 0, .int .i64 0, .int .i64 0, .int .i64 0, .int .i64 0] 25)) := Keep.alloc _ _
  by_cases c1 : L < 9
  case pos =>
    have HN := Lib.hid (show ¬ POk L W from fun h => by have := h.1; omega)
    clear h
    go_enter Try.func33, Try.ntmps33
    go_wp2_with (refine wpList_store_row rfl 25 (.tmp 2) (.tmp 23) rfl w.heap.size #[.slice none 0 0, .int .i64 0, .int .i64 0, .int .i64 0, .int .i64 0, .int .i64 0, .int .i64 0, .int .i64 0] rfl rfl 25 #[.slice none 0 0, .int .i64 0, .int .i64 0, .int .i64 0, .int .i64 0, .int .i64 0, .int .i64 0, .int .i64 0] hZ zero25 rfl zero1 ?_)
    (try simp only [Exit.inBlock, Exit.then])
    refine bodyPost_ret (v := .tuple #[.agg #[.slice none 0 0, .int .i64 0, .int .i64 0, .int .i64 0, .int .i64 0, .int .i64 0, .int .i64 0, .int .i64 0], .int .i64 8]) ?_ rfl ?_
    · exact results_cell_tmp rfl _ _ w.heap.size 25 #[.slice none 0 0, .int .i64 0, .int .i64 0, .int .i64 0, .int .i64 0, .int .i64 0, .int .i64 0, .int .i64 0] (0, 0) _ _ rfl rfl (setRow_heap _ _ _ _ _ _ hZ) Try.underlying25 rfl zero25
    exact Or.inr ⟨HN.out, rfl, (k1).since (Keep.setRow (own := [w.heap.size]) _ _ (by simp) _) (by simp)⟩
  obtain ⟨b, o, rfl, hb, hc⟩ := (h.keep k1).cells (by omega)
  have hb0 : b < w.heap.size := by
    obtain ⟨b', o', e, hb', _⟩ := h.cells (by omega)
    injection e with e
    injection e with e _ _
    subst e
    exact hb'
  have hnc := h.nc
  have hcc := h.cap
  have HC := Lib.hid hc
  have x0 := hc 0 (by omega)
  rw [Nat.add_zero] at x0
  have x8 := hc 8 (by omega)
  by_cases c2 : W 0 = magicN
  case neg =>
    have HN := Lib.hid (show ¬ POk L W from fun h => c2 h.2.1)
    have e2 : ((W 0 : Nat) : Int) ≠ 8317131967827831151 := by unfold magicN at c2; omega
    have e3 : (((W 0 : Nat) : Int) == 8317131967827831151) = false := by simp; omega
    generalize W 0 = z0 at *
    clear h hc c2
    go_enter Try.func33, Try.ntmps33
    go_wp2_with (refine wpList_store_row rfl 25 (.tmp 2) (.tmp 23) rfl w.heap.size #[.slice none 0 0, .int .i64 0, .int .i64 0, .int .i64 0, .int .i64 0, .int .i64 0, .int .i64 0, .int .i64 0] rfl rfl 25 #[.slice none 0 0, .int .i64 0, .int .i64 0, .int .i64 0, .int .i64 0, .int .i64 0, .int .i64 0, .int .i64 0] hZ zero25 rfl zero1 ?_)
    (try simp only [Exit.inBlock, Exit.then])
    refine bodyPost_ret (v := .tuple #[.agg #[.slice none 0 0, .int .i64 0, .int .i64 0, .int .i64 0, .int .i64 0, .int .i64 0, .int .i64 0, .int .i64 0], .int .i64 8]) ?_ rfl ?_
    · exact results_cell_tmp rfl _ _ w.heap.size 25 #[.slice none 0 0, .int .i64 0, .int .i64 0, .int .i64 0, .int .i64 0, .int .i64 0, .int .i64 0, .int .i64 0] (0, 0) _ _ rfl rfl (setRow_heap _ _ _ _ _ _ hZ) Try.underlying25 rfl zero25
    exact Or.inr ⟨HN.out, rfl, (k1).since (Keep.setRow (own := [w.heap.size]) _ _ (by simp) _) (by simp)⟩
  rw [show ((W 0 : Nat) : Int) = 8317131967827831151 by rw [c2]; rfl] at x0
  by_cases c3 : W 8 ≤ 16
  case neg =>
    have HN := Lib.hid (show ¬ POk L W from fun h => c3 h.2.2.1)
    have e3 : 16 < W 8 := by omega
    have e4 : (16 : Int) < (W 8 : Nat) := by omega
    generalize W 8 = z8 at *
    clear h hc c2
    go_enter Try.func33, Try.ntmps33
    go_wp2_with (refine wpList_store_row rfl 25 (.tmp 2) (.tmp 23) rfl w.heap.size #[.slice none 0 0, .int .i64 0, .int .i64 0, .int .i64 0, .int .i64 0, .int .i64 0, .int .i64 0, .int .i64 0] rfl rfl 25 #[.slice none 0 0, .int .i64 0, .int .i64 0, .int .i64 0, .int .i64 0, .int .i64 0, .int .i64 0, .int .i64 0] hZ zero25 rfl zero1 ?_)
    (try simp only [Exit.inBlock, Exit.then])
    refine bodyPost_ret (v := .tuple #[.agg #[.slice none 0 0, .int .i64 0, .int .i64 0, .int .i64 0, .int .i64 0, .int .i64 0, .int .i64 0, .int .i64 0], .int .i64 8]) ?_ rfl ?_
    · exact results_cell_tmp rfl _ _ w.heap.size 25 #[.slice none 0 0, .int .i64 0, .int .i64 0, .int .i64 0, .int .i64 0, .int .i64 0, .int .i64 0, .int .i64 0] (0, 0) _ _ rfl rfl (setRow_heap _ _ _ _ _ _ hZ) Try.underlying25 rfl zero25
    exact Or.inr ⟨HN.out, rfl, (k1).since (Keep.setRow (own := [w.heap.size]) _ _ (by simp) _) (by simp)⟩
  have e3 : ¬ 16 < W 8 := by omega
  have e4 : ¬ (16 : Int) < (W 8 : Nat) := by omega
  have hlt := h.lt
  have HW := Lib.hid h
  clear h hc
  have hN8 := fun w => number_nat (W 8) (by omega) w
  have hP9 : ∀ (V : World) (A9 : Option Addr) (L9 cap9 : Nat), Wrd V A9 L9 cap9 (fun i => W (9 + i)) → _ := fun V A9 L9 cap9 h9 => parseKinds_any V A9 L9 cap9 (W 8) (fun i => W (9 + i)) h9 c3
  have HP9 := Lib.hid hP9
  have HLT := Lib.hid hlt
  obtain ⟨z8, hz8⟩ : ∃ z, W 8 = z := ⟨_, rfl⟩
  rw [hz8] at x8 hN8 e3 e4
  have HZ8 := Lib.hid hz8
  have HZ := Lib.hid hZ
  have HC2 := Lib.hid c2
  clear hP9 hlt hz8 hZ c2 c3
  go_enter Try.func33, Try.ntmps33
  go_wp2_with fail
  go_upto_region 3 with fail
  go_cut [4, 5] (fun s4 s5 wx => (PksOk z8 (L - 9) (fun i => W (9 + i)) ∧ ∃ g, s4 = .slice (some ⟨g, 0, none⟩) z8 z8 ∧ s5 = .bool true ∧ KNew (w.heap.size + 1) wx (some ⟨g, 0, none⟩) z8 z8 (fun i => pm (W (9 + i))) (fun i => pf (W (9 + i))) ∧ Keep [] (w.alloc (.cells #[.slice none 0 0, .int .i64 0, .int .i64 0, .int .i64 0, .int .i64 0, .int .i64 0, .int .i64 0, .int .i64 0] 25)) wx) ∨ (¬ PksOk z8 (L - 9) (fun i => W (9 + i)) ∧ s4 = .slice none 0 0 ∧ s5 = .bool false ∧ Keep [] (w.alloc (.cells #[.slice none 0 0, .int .i64 0, .int .i64 0, .int .i64 0, .int .i64 0, .int .i64 0, .int .i64 0, .int .i64 0] 25)) wx))
  case first =>
    by_cases c9 : cap = 9
    · obtain rfl : L = 9 := by omega
      subst c9
      have h9 : ∀ V : World, Wrd V (some ⟨b, o, none⟩) 0 0 (fun i => W (9 + i)) := fun V => ⟨by omega, by omega, fun j => HLT.out _, fun h => by omega⟩
      have hq := fun V (_ : Keep [] w V) => HP9.out V (some ⟨b, o, none⟩) 0 0 (h9 V)
      rw [HZ8.out] at hq
      have HQ := Lib.hid hq
      clear hq h9
      by_cases hP : PksOk z8 (9 - 9) (fun i => W (9 + i))
      · have hq2 := fun V hk => (HQ.out V hk).mono (fun e w3 hh => (show ∃ g, e = .returned (.tuple #[.slice (some ⟨g, 0, none⟩) z8 z8, .bool true]) ∧ KNew V.heap.size w3 (some ⟨g, 0, none⟩) z8 z8 (fun i => pm (W (9 + i))) (fun i => pf (W (9 + i))) ∧ Keep [] V w3 from hh.elim (fun h => h.2) (fun h => absurd hP h.1)))
        have HQ2 := Lib.hid hq2
        have HPP := Lib.hid hP
        clear hq2 hP
        go_wp2_with fail
        go_region_with (first | (go_at_call 52; refine (hN8 _).mono ?_; rintro e w' ⟨rfl, rfl⟩) | (go_at_call 51; refine (HQ2.out _ (by repeat (first | exact k1 | (with_reducible refine Keep.trans ?_ (Keep.drew _))))).mono ?_; rintro e w3 ⟨g, rfl, hKr, k3⟩))
        all_goals
          go_wp2_with fail
          go_meet
          exact Or.inl ⟨HPP.out, g, rfl, rfl, by simpa using hKr, ((Keep.drew _).trans k3)⟩
      · have hq2 := fun V hk => (HQ.out V hk).mono (fun e w3 hh => (show e = .returned (.tuple #[.slice none 0 0, .bool false]) ∧ Keep [] V w3 from hh.elim (fun h => absurd h.1 hP) (fun h => h.2)))
        have HQ2 := Lib.hid hq2
        have HPP := Lib.hid hP
        clear hq2 hP
        go_wp2_with fail
        go_region_with (first | (go_at_call 52; refine (hN8 _).mono ?_; rintro e w' ⟨rfl, rfl⟩) | (go_at_call 51; refine (HQ2.out _ (by repeat (first | exact k1 | (with_reducible refine Keep.trans ?_ (Keep.drew _))))).mono ?_; rintro e w3 ⟨rfl, k3⟩))
        all_goals
          go_wp2_with fail
          go_meet
          exact Or.inr ⟨HPP.out, rfl, rfl, ((Keep.drew _).trans k3)⟩
    · have c10 : 9 < cap := by omega
      have c11 : (9 : Int) ≤ L := by omega
      have c12 : (9 : Int) ≤ cap := by omega
      have h9 : Wrd w (some ⟨b, o + 9, none⟩) (L - 9) (cap - 9) (fun i => W (9 + i)) := ⟨by omega, by omega, fun j => HLT.out _, fun h => by
        obtain ⟨b', o', e, hb', hc'⟩ := HW.out.cells (by omega)
        injection e with e
        injection e with e1 e2 _
        subst e1 e2
        exact ⟨b, o + 9, rfl, hb0, fun j hj => by rw [Nat.add_assoc]; exact hc' (9 + j) (by omega)⟩⟩
      have hq := fun V (hk : Keep [] w V) => HP9.out V (some ⟨b, o + 9, none⟩) (L - 9) (cap - 9) (h9.keep hk)
      rw [HZ8.out] at hq
      have HQ := Lib.hid hq
      clear hq h9
      by_cases hP : PksOk z8 (L - 9) (fun i => W (9 + i))
      · have hq2 := fun V hk => (HQ.out V hk).mono (fun e w3 hh => (show ∃ g, e = .returned (.tuple #[.slice (some ⟨g, 0, none⟩) z8 z8, .bool true]) ∧ KNew V.heap.size w3 (some ⟨g, 0, none⟩) z8 z8 (fun i => pm (W (9 + i))) (fun i => pf (W (9 + i))) ∧ Keep [] V w3 from hh.elim (fun h => h.2) (fun h => absurd hP h.1)))
        have HQ2 := Lib.hid hq2
        have HPP := Lib.hid hP
        clear hq2 hP
        go_wp2_with fail
        go_region_with (first | (go_at_call 52; refine (hN8 _).mono ?_; rintro e w' ⟨rfl, rfl⟩) | (go_at_call 51; refine (HQ2.out _ (by repeat (first | exact k1 | (with_reducible refine Keep.trans ?_ (Keep.drew _))))).mono ?_; rintro e w3 ⟨g, rfl, hKr, k3⟩))
        all_goals
          go_wp2_with fail
          go_meet
          exact Or.inl ⟨HPP.out, g, rfl, rfl, by simpa using hKr, ((Keep.drew _).trans k3)⟩
      · have hq2 := fun V hk => (HQ.out V hk).mono (fun e w3 hh => (show e = .returned (.tuple #[.slice none 0 0, .bool false]) ∧ Keep [] V w3 from hh.elim (fun h => absurd h.1 hP) (fun h => h.2)))
        have HQ2 := Lib.hid hq2
        have HPP := Lib.hid hP
        clear hq2 hP
        go_wp2_with fail
        go_region_with (first | (go_at_call 52; refine (hN8 _).mono ?_; rintro e w' ⟨rfl, rfl⟩) | (go_at_call 51; refine (HQ2.out _ (by repeat (first | exact k1 | (with_reducible refine Keep.trans ?_ (Keep.drew _))))).mono ?_; rintro e w3 ⟨rfl, k3⟩))
        all_goals
          go_wp2_with fail
          go_meet
          exact Or.inr ⟨HPP.out, rfl, rfl, ((Keep.drew _).trans k3)⟩
  case rest =>
  clear x0 x8
  rcases hcut with ⟨hP, g, rfl, rfl, hKr, hk⟩ | ⟨hP, rfl, rfl, hk⟩
  case inr =>
    have hZq := HZ.out.keep hk (by simp)
    have HN := Lib.hid (show ¬ POk L W from fun h => hP (by rw [← HZ8.out]; exact ⟨by have := h.1; omega, h.2.2.2.1⟩))
    clear hP
    go_wp2_with (refine wpList_store_row rfl 25 (.tmp 2) (.tmp 36) rfl w.heap.size #[.slice none 0 0, .int .i64 0, .int .i64 0, .int .i64 0, .int .i64 0, .int .i64 0, .int .i64 0, .int .i64 0] rfl rfl 25 #[.slice none 0 0, .int .i64 0, .int .i64 0, .int .i64 0, .int .i64 0, .int .i64 0, .int .i64 0, .int .i64 0] hZq zero25 rfl zero1 ?_)
    (try simp only [Exit.inBlock, Exit.then])
    refine bodyPost_ret (v := .tuple #[.agg #[.slice none 0 0, .int .i64 0, .int .i64 0, .int .i64 0, .int .i64 0, .int .i64 0, .int .i64 0, .int .i64 0], .int .i64 8]) ?_ rfl ?_
    · exact results_cell_tmp rfl _ _ w.heap.size 25 #[.slice none 0 0, .int .i64 0, .int .i64 0, .int .i64 0, .int .i64 0, .int .i64 0, .int .i64 0, .int .i64 0] (0, 0) _ _ rfl rfl (setRow_heap _ _ _ _ _ _ hZq) Try.underlying25 rfl zero25
    exact Or.inr ⟨HN.out, rfl, (k1.trans hk).since (Keep.setRow (own := [w.heap.size]) _ _ (by simp) _) (by simp)⟩
  have hc := fun j hj => (hk.cell (p := ⟨b, o + j, none⟩) hb (by simp)).trans (HC.out j hj)
  have x1 := hc 1 (by omega)
  have x2 := hc 2 (by omega)
  have x3 := hc 3 (by omega)
  have hbq : b < wc.heap.size := Nat.lt_of_lt_of_le hb hk.size
  obtain ⟨r1, e1⟩ : ∃ r, wrap64 (W 1 : Nat) = r := ⟨_, rfl⟩
  obtain ⟨r2, e2⟩ : ∃ r, wrap64 (W 2 : Nat) = r := ⟨_, rfl⟩
  obtain ⟨r3, e3'⟩ : ∃ r, wrap64 (W 3 : Nat) = r := ⟨_, rfl⟩
  obtain ⟨b0, f0⟩ : ∃ r, wrap64 (W 4 : Nat) = r := ⟨_, rfl⟩
  obtain ⟨b1, f1⟩ : ∃ r, wrap64 (W 5 : Nat) = r := ⟨_, rfl⟩
  obtain ⟨b2, f2⟩ : ∃ r, wrap64 (W 6 : Nat) = r := ⟨_, rfl⟩
  obtain ⟨b3, f3⟩ : ∃ r, wrap64 (W 7 : Nat) = r := ⟨_, rfl⟩
  have n1 := number_eq (W 1) r1 e1
  have n2 := number_eq (W 2) r2 e2
  have n3 := number_eq (W 3) r3 e3'
  have n4 := number_eq (W 4) b0 f0
  have n5 := number_eq (W 5) b1 f1
  have n6 := number_eq (W 6) b2 f2
  have n7 := number_eq (W 7) b3 f3
  have hrng : -9223372036854775808 ≤ r3 ∧ r3 ≤ 9223372036854775807 := e3' ▸ wrap64_rng _
  have HWR := Lib.hid (show Wr (W 4) b0 ∧ Wr (W 5) b1 ∧ Wr (W 6) b2 ∧ Wr (W 7) b3 ∧ Wr (W 1) r1 ∧ Wr (W 2) r2 ∧ Wr (W 3) r3 from ⟨f0 ▸ Wr.of (HLT.out _), f1 ▸ Wr.of (HLT.out _), f2 ▸ Wr.of (HLT.out _), f3 ▸ Wr.of (HLT.out _), e1 ▸ Wr.of (HLT.out _), e2 ▸ Wr.of (HLT.out _), e3' ▸ Wr.of (HLT.out _)⟩)
  have HCC := Lib.hid hc
  have HPP := Lib.hid hP
  have HKR := Lib.hid hKr
  have HKK := Lib.hid hk
  have N1 := Lib.hid n1
  have N2 := Lib.hid n2
  have N3 := Lib.hid n3
  clear hc HP9 hN8 e1 e2 e3' f0 f1 f2 f3 hP hKr n1 n2 n3
  generalize wc = wq at *
  go_upto_region 6 with fail
  go_cut [6] (fun s wx => ∃ g6, s = .pointer (some ⟨g6, 0, none⟩) ∧ Blk wx g6 25 #[.slice (some ⟨g, 0, none⟩) z8 z8, .int .i64 0, .int .i64 0, .int .i64 0, .int .i64 0, .int .i64 r1, .int .i64 r2, .int .i64 r3] ∧ wq.heap.size ≤ g6 ∧ Keep [] wq wx)
  case first =>
    go_wp2_with fail
    have t1 : (1 : Int) < (L : Int) := by omega
    have t2 : (2 : Int) < (L : Int) := by omega
    have t3 : (3 : Int) < (L : Int) := by omega
    have xa1 := (cell_alloc_lt wq #[.slice none 0 0, .int .i64 0, .int .i64 0, .int .i64 0, .int .i64 0, .int .i64 0, .int .i64 0, .int .i64 0] 25 hbq).trans x1
    have xa2 := (cell_alloc_lt wq #[.slice none 0 0, .int .i64 0, .int .i64 0, .int .i64 0, .int .i64 0, .int .i64 0, .int .i64 0, .int .i64 0] 25 hbq).trans x2
    have xa3 := (cell_alloc_lt wq #[.slice none 0 0, .int .i64 0, .int .i64 0, .int .i64 0, .int .i64 0, .int .i64 0, .int .i64 0, .int .i64 0] 25 hbq).trans x3
    go_region_held3 (fun w' => w'.cell? ⟨b, o + 1, none⟩ = some (.int .u64 (W 1 : Nat)) ∧ w'.cell? ⟨b, o + 2, none⟩ = some (.int .u64 (W 2 : Nat)) ∧ w'.cell? ⟨b, o + 3, none⟩ = some (.int .u64 (W 3 : Nat))) (first | exact ⟨x1, x2, x3⟩ | exact ⟨xa1, xa2, xa3⟩ | go_keep)
      (first | (go_at_call 52; refine (N1.out _).mono ?_; rintro e w' ⟨rfl, rfl⟩) | (go_at_call 52; refine (N2.out _).mono ?_; rintro e w' ⟨rfl, rfl⟩) | (go_at_call 52; refine (N3.out _).mono ?_; rintro e w' ⟨rfl, rfl⟩))
    all_goals
      go_wp2_with fail
      go_meet
      exact ⟨wq.heap.size, rfl, (Blk.new wq _ _).keep (own := []) (Keep.drew _) (by simp), Nat.le_refl _, (Keep.alloc _ _).trans (Keep.drew _)⟩
  case rest =>
  obtain ⟨g6, rfl, hB6, hg6, hk6⟩ := hcut
  have hcc2 := fun j hj => (hk6.cell (p := ⟨b, o + j, none⟩) hbq (by simp)).trans (HCC.out j hj)
  have x4 := hcc2 4 (by omega)
  have x5 := hcc2 5 (by omega)
  have x6 := hcc2 6 (by omega)
  have x7 := hcc2 7 (by omega)
  have hne : ¬ b = g6 := by omega
  have hne2 : ¬ g6 = b := by omega
  have y1 := (hB6.cell 1).trans (show _ = some (Value.int .i64 0) from rfl)
  have y2 := (hB6.cell 2).trans (show _ = some (Value.int .i64 0) from rfl)
  have y3 := (hB6.cell 3).trans (show _ = some (Value.int .i64 0) from rfl)
  have y4 := (hB6.cell 4).trans (show _ = some (Value.int .i64 0) from rfl)
  have u1 := hB6.frozen 1
  have u2 := hB6.frozen 2
  have u3 := hB6.frozen 3
  have u4 := hB6.frozen 4
  have HF0 : ∀ wx, wx = ((((wc.setCell ⟨g6, 1, none⟩ (.int .i64 b0)).setCell ⟨g6, 2, none⟩ (.int .i64 b1)).setCell ⟨g6, 3, none⟩ (.int .i64 b2)).setCell ⟨g6, 4, none⟩ (.int .i64 b3)) → Blk wx g6 25 #[.slice (some ⟨g, 0, none⟩) z8 z8, .int .i64 b0, .int .i64 b1, .int .i64 b2, .int .i64 b3, .int .i64 r1, .int .i64 r2, .int .i64 r3] ∧ Keep [g6] wc wx := by
    rintro _ rfl
    have s1 : Blk (wc.setCell ⟨g6, 1, none⟩ (.int .i64 b0)) g6 25 #[.slice (some ⟨g, 0, none⟩) z8 z8, .int .i64 b0, .int .i64 0, .int .i64 0, .int .i64 0, .int .i64 r1, .int .i64 r2, .int .i64 r3] := by
      have := hB6.set_ 1 (.int .i64 b0)
      simpa only [List.setIfInBounds_toArray, List.set_cons_zero, List.set_cons_succ] using this
    have s2 : Blk ((wc.setCell ⟨g6, 1, none⟩ (.int .i64 b0)).setCell ⟨g6, 2, none⟩ (.int .i64 b1)) g6 25 #[.slice (some ⟨g, 0, none⟩) z8 z8, .int .i64 b0, .int .i64 b1, .int .i64 0, .int .i64 0, .int .i64 r1, .int .i64 r2, .int .i64 r3] := by
      have := s1.set_ 2 (.int .i64 b1)
      simpa only [List.setIfInBounds_toArray, List.set_cons_zero, List.set_cons_succ] using this
    have s3 : Blk (((wc.setCell ⟨g6, 1, none⟩ (.int .i64 b0)).setCell ⟨g6, 2, none⟩ (.int .i64 b1)).setCell ⟨g6, 3, none⟩ (.int .i64 b2)) g6 25 #[.slice (some ⟨g, 0, none⟩) z8 z8, .int .i64 b0, .int .i64 b1, .int .i64 b2, .int .i64 0, .int .i64 r1, .int .i64 r2, .int .i64 r3] := by
      have := s2.set_ 3 (.int .i64 b2)
      simpa only [List.setIfInBounds_toArray, List.set_cons_zero, List.set_cons_succ] using this
    have s4 : Blk ((((wc.setCell ⟨g6, 1, none⟩ (.int .i64 b0)).setCell ⟨g6, 2, none⟩ (.int .i64 b1)).setCell ⟨g6, 3, none⟩ (.int .i64 b2)).setCell ⟨g6, 4, none⟩ (.int .i64 b3)) g6 25 #[.slice (some ⟨g, 0, none⟩) z8 z8, .int .i64 b0, .int .i64 b1, .int .i64 b2, .int .i64 b3, .int .i64 r1, .int .i64 r2, .int .i64 r3] := by
      have := s3.set_ 4 (.int .i64 b3)
      simpa only [List.setIfInBounds_toArray, List.set_cons_zero, List.set_cons_succ] using this
    exact ⟨s4, (((Keep.setCell _ _ (by simp) _).trans (Keep.setCell _ _ (by simp) _)).trans (Keep.setCell _ _ (by simp) _)).trans (Keep.setCell _ _ (by simp) _)⟩
  have HF := Lib.hid HF0
  clear HF0 hB6 hcc2 HCC x1 x2 x3
  go_wp2
  refine wp_loop_rounds 5 ?_
  rw [rounds_succ]; go_wp2_with fail
  (with_reducible refine (n4 _).mono ?_)
  rintro e w' ⟨rfl, rfl⟩
  go_wp2
  rw [rounds_succ]; go_wp2_with fail
  (with_reducible refine (n5 _).mono ?_)
  rintro e w' ⟨rfl, rfl⟩
  go_wp2
  rw [rounds_succ]; go_wp2_with fail
  (with_reducible refine (n6 _).mono ?_)
  rintro e w' ⟨rfl, rfl⟩
  go_wp2
  rw [rounds_succ]; go_wp2_with fail
  (with_reducible refine (n7 _).mono ?_)
  rintro e w' ⟨rfl, rfl⟩
  go_wp2
  rw [rounds_succ]; go_upto_region 12 with fail
  refine gen_world (R := fun wx => Blk wx g6 25 #[.slice (some ⟨g, 0, none⟩) z8 z8, .int .i64 b0, .int .i64 b1, .int .i64 b2, .int .i64 b3, .int .i64 r1, .int .i64 r2, .int .i64 r3] ∧ Keep [g6] wc wx) (HF.out _ (by with_reducible rfl)) ?_
  clear HF x4 x5 x6 x7 y1 y2 y3 y4 u1 u2 u3 u4 n4 n5 n6 n7
  intro wz hz
  obtain ⟨hBz, hkz⟩ := hz
  have hkq : Keep [] wq wz := hk6.since hkz (by intro k hk; simp at hk; omega)
  have hkz1 := HKK.out.trans hkq
  have hZz := HZ.out.keep hkz1 (by simp)
  have hKz := HKR.out.keepO hkq (by simp)
  have hmay := may_any wz (some ⟨g, 0, none⟩) z8 z8 (fun i => pm (W (9 + i))) (fun i => pf (W (9 + i))) b0 b1 b2 b3 r1 r2 r3 hrng hKz.krow
  have q0 := (hBz.cell 0).trans (show _ = some (Value.slice (some ⟨g, 0, none⟩) z8 z8) from rfl)
  have q1 := (hBz.cell 1).trans (show _ = some (Value.int .i64 b0) from rfl)
  have q2 := (hBz.cell 2).trans (show _ = some (Value.int .i64 b1) from rfl)
  have q3 := (hBz.cell 3).trans (show _ = some (Value.int .i64 b2) from rfl)
  have q4 := (hBz.cell 4).trans (show _ = some (Value.int .i64 b3) from rfl)
  have q5 := (hBz.cell 5).trans (show _ = some (Value.int .i64 r1) from rfl)
  have q6 := (hBz.cell 6).trans (show _ = some (Value.int .i64 r2) from rfl)
  have q7 := (hBz.cell 7).trans (show _ = some (Value.int .i64 r3) from rfl)
  have HPO : POk L W ↔ MayC z8 (fun i => pm (W (9 + i))) (fun i => pf (W (9 + i))) b0 b1 b2 b3 r1 r2 r3 := by
    obtain ⟨w0, w1, w2, w3, w4, w5, w6⟩ := HWR.out
    rw [mayC_wrap w0 w1 w2 w3 w4 w5 w6]
    unfold POk
    rw [HZ8.out]
    constructor
    · intro h; exact h.2.2.2.2
    · intro h; exact ⟨by have := HPP.out.1; omega, HC2.out, by omega, HPP.out.2, h⟩
  by_cases hM : MayC z8 (fun i => pm (W (9 + i))) (fun i => pf (W (9 + i))) b0 b1 b2 b3 r1 r2 r3
  case neg =>
    rw [show mayE z8 (fun i => pm (W (9 + i))) (fun i => pf (W (9 + i))) b0 b1 b2 b3 r1 r2 r3 = 1 from if_neg hM] at hmay
    have HN := Lib.hid (show ¬ POk L W from fun h => hM (HPO.1 h))
    clear hM HPO hBz hKz
    go_wp2_with fail
    (with_reducible refine hmay.mono ?_)
    rintro e wy ⟨rfl, ky⟩
    have hZy := hZz.keep ky (by simp)
    go_wp2_with (refine wpList_store_row rfl 25 (.tmp 2) (.tmp 67) rfl w.heap.size #[.slice none 0 0, .int .i64 0, .int .i64 0, .int .i64 0, .int .i64 0, .int .i64 0, .int .i64 0, .int .i64 0] rfl rfl 25 #[.slice none 0 0, .int .i64 0, .int .i64 0, .int .i64 0, .int .i64 0, .int .i64 0, .int .i64 0, .int .i64 0] hZy zero25 rfl zero1 ?_)
    (try simp only [Exit.inBlock, Exit.then])
    refine bodyPost_ret (v := .tuple #[.agg #[.slice none 0 0, .int .i64 0, .int .i64 0, .int .i64 0, .int .i64 0, .int .i64 0, .int .i64 0, .int .i64 0], .int .i64 8]) ?_ rfl ?_
    · exact results_cell_tmp rfl _ _ w.heap.size 25 #[.slice none 0 0, .int .i64 0, .int .i64 0, .int .i64 0, .int .i64 0, .int .i64 0, .int .i64 0, .int .i64 0] (0, 0) _ _ rfl rfl (setRow_heap _ _ _ _ _ _ hZy) Try.underlying25 rfl zero25
    exact Or.inr ⟨HN.out, rfl, ((k1.trans hkz1).trans ky).since (Keep.setRow (own := [w.heap.size]) _ _ (by simp) _) (by simp)⟩
  rw [show mayE z8 (fun i => pm (W (9 + i))) (fun i => pf (W (9 + i))) b0 b1 b2 b3 r1 r2 r3 = 0 from if_pos hM] at hmay
  have HN := Lib.hid (show POk L W from HPO.2 hM)
  have HEQ := Lib.hid (show b0 = (W 4 : Nat) ∧ b1 = (W 5 : Nat) ∧ b2 = (W 6 : Nat) ∧ b3 = (W 7 : Nat) ∧ r1 = (W 1 : Nat) ∧ r2 = (W 2 : Nat) ∧ r3 = (W 3 : Nat) by
    obtain ⟨w0, w1, w2, w3, w4, w5, w6⟩ := HWR.out
    obtain ⟨_, ⟨x0, x1, x2, x3, _⟩, ⟨x5, _, x7, _⟩, ⟨x9, _, _⟩⟩ := hM
    exact ⟨w0.1 x0.1, w1.1 x1.1, w2.1 x2.1, w3.1 x3.1, w4.1 (by omega), w5.1 x7, w6.1 (by omega)⟩)
  have HBZ := Lib.hid hBz
  have HKZ := Lib.hid hKz
  clear hM HPO hBz hKz
  go_wp2_with fail
  (with_reducible refine hmay.mono ?_)
  rintro e wy ⟨rfl, ky⟩
  have hZy := hZz.keep ky (by simp)
  have hBy := HBZ.out.keep ky (by simp)
  clear q0 q1 q2 q3 q4 q5 q6 q7
  have q0 := (hBy.cell 0).trans (show _ = some (Value.slice (some ⟨g, 0, none⟩) z8 z8) from rfl)
  have q1 := (hBy.cell 1).trans (show _ = some (Value.int .i64 b0) from rfl)
  have q2 := (hBy.cell 2).trans (show _ = some (Value.int .i64 b1) from rfl)
  have q3 := (hBy.cell 3).trans (show _ = some (Value.int .i64 b2) from rfl)
  have q4 := (hBy.cell 4).trans (show _ = some (Value.int .i64 b3) from rfl)
  have q5 := (hBy.cell 5).trans (show _ = some (Value.int .i64 r1) from rfl)
  have q6 := (hBy.cell 6).trans (show _ = some (Value.int .i64 r2) from rfl)
  have q7 := (hBy.cell 7).trans (show _ = some (Value.int .i64 r3) from rfl)
  have k25 : (Try.prog.info? 25).map (·.size) = some (#[.slice (some ⟨g, 0, none⟩) z8 z8, .int .i64 b0, .int .i64 b1, .int .i64 b2, .int .i64 b3, .int .i64 r1, .int .i64 r2, .int .i64 r3] : Array Value).size := by kernel_rfl
  have h1c : (#[.slice (some ⟨g, 0, none⟩) z8 z8, .int .i64 b0, .int .i64 b1, .int .i64 b2, .int .i64 b3, .int .i64 r1, .int .i64 r2, .int .i64 r3] : Array Value).all (·.oneCell') = true := by first | kernel_rfl | simp [Value.oneCell']
  clear hBy
  go_wp2_with (refine wpList_store_row rfl 25 (.tmp 2) (.tmp 68) rfl w.heap.size #[.slice (some ⟨g, 0, none⟩) z8 z8, .int .i64 b0, .int .i64 b1, .int .i64 b2, .int .i64 b3, .int .i64 r1, .int .i64 r2, .int .i64 r3] rfl rfl 25 #[.slice none 0 0, .int .i64 0, .int .i64 0, .int .i64 0, .int .i64 0, .int .i64 0, .int .i64 0, .int .i64 0] hZy k25 rfl h1c ?_)
  (try simp only [Exit.inBlock, Exit.then])
  refine bodyPost_ret (v := .tuple #[.agg #[.slice (some ⟨g, 0, none⟩) z8 z8, .int .i64 b0, .int .i64 b1, .int .i64 b2, .int .i64 b3, .int .i64 r1, .int .i64 r2, .int .i64 r3], .int .i64 0]) ?_ rfl ?_
  · exact results_cell_tmp rfl _ _ w.heap.size 25 #[.slice (some ⟨g, 0, none⟩) z8 z8, .int .i64 b0, .int .i64 b1, .int .i64 b2, .int .i64 b3, .int .i64 r1, .int .i64 r2, .int .i64 r3] (0, 0) _ _ rfl rfl (setRow_heap _ _ _ _ _ _ hZy) Try.underlying25 rfl k25
  have ks : Keep [w.heap.size] wy (wy.setRow w.heap.size #[.slice (some ⟨g, 0, none⟩) z8 z8, .int .i64 b0, .int .i64 b1, .int .i64 b2, .int .i64 b3, .int .i64 r1, .int .i64 r2, .int .i64 r3]) := Keep.setRow _ _ (by simp) _
  refine Or.inl ⟨HN.out, some ⟨g, 0, none⟩, z8, ?_, ?_, ((k1.trans hkz1).trans ky).since ks (by simp)⟩
  · obtain ⟨e0, e1, e2, e3, e4, e5, e6⟩ := HEQ.out
    rw [HZ8.out, e0, e1, e2, e3, e4, e5, e6]
  · rw [HZ8.out]
    exact ((HKZ.out.keepO ky (by simp)).keepO ks (by intro k hk; simp; omega)).krow
end Go.Proofs.Ytihfejbkojhkaaa
