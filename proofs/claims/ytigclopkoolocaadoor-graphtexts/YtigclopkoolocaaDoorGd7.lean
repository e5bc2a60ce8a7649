/-
  The program's package graph: a node, renumbered. No conditions but what is in memory.
-/
import Derived.Test.YtigclopkoolocaaDoorGd6
namespace Go.Flo
open Go.RowKit Go.Bit
theorem keep_set5 (w : World) (b j : Nat) (a0 a1 a2 a3 a4 : Value) : Keep [b] w (((((w.setCell ⟨b, j * 5, none⟩ a0).setCell ⟨b, j * 5 + 1, none⟩ a1).setCell ⟨b, j * 5 + 2, none⟩ a2).setCell ⟨b, j * 5 + 3, none⟩ a3).setCell ⟨b, j * 5 + 4, none⟩ a4) :=
  ((((Keep.setCell _ _ (by simp) _).trans (Keep.setCell _ _ (by simp) _)).trans (Keep.setCell _ _ (by simp) _)).trans (Keep.setCell _ _ (by simp) _)).trans (Keep.setCell _ _ (by simp) _)
end Go.Flo
namespace Go.Proofs.YtigclopkoolocaaDoor
open Go.RowKit Go.Flo Go.Bit
set_option maxRecDepth 100000

/-- A node, told. -/
def NodePost (x : Nod) (w : World) (e : Ending) (w' : World) : Prop :=
  ∃ b, e = .returned (.agg #[.int .i64 x.K, .slice (some ⟨b, 0, none⟩) x.fs.length x.fs.length]) ∧ w.heap.size ≤ b ∧ Row w' 36 b (x.fs.length * 5) (x.fs.length * 5) (valC (fun i => x.fs.getD i z0)) ∧ Keep [] w w'

set_option maxHeartbeats 4000000 in
theorem node_any (w : World) (r s n c : Nat) (R : List Nat) (v : Value) (A : Option Addr) (K : Int) (fs : List Val) (hb : Blk w r 42 #[v, .slice (some ⟨s, 0, none⟩) n n]) (hp : Row w 3 s n n (fun i => .int .i64 (place R (i : Nat)))) (hl : Vals w A fs.length c (fun j => fs.getD j z0)) (hq : fs.length ≤ 65536) (hm : ∀ x ∈ fs, MayV n x) :
    Calls Tryd.prog 21 #[.pointer (some ⟨r, 0, none⟩), .agg #[.int .i64 K, .slice A fs.length c]] w (NodePost ⟨K, fs.map (plainR R)⟩ w) := by
  unfold NodePost
  dsimp only
  rw [List.length_map]
  obtain ⟨m, hfm⟩ : ∃ m, fs.length = m := ⟨_, rfl⟩
  have hlc := hl.nc
  have hlm := hl.cap
  rw [hfm] at hq hlc hl ⊢
  have HL := Lib.hid (And.intro hl (And.intro hfm hm))
  have HB := Lib.hid (And.intro hb hp)
  have hrw := hb.lt
  have hsw := hp.lt
  have HN := Lib.hid (show ∀ j, j < m → (fs.map (plainR R)).getD j z0 = plainR R (fs.getD j z0) from fun j hj => by
    rw [List.getD_eq_getElem?_getD, List.getElem?_map, List.getD_eq_getElem?_getD, List.getElem?_eq_getElem (by rw [hfm]; exact hj)]
    rfl)
  have ka1 : Keep [] w (w.alloc (.cells #[.int .i64 K, .slice A m c] 33)) := Keep.alloc _ _
  have hb1 := Blk.new w 33 #[.int .i64 K, .slice A m c]
  obtain ⟨w1, hw1⟩ : ∃ w1, w1 = w.alloc (.cells #[.int .i64 K, .slice A m c] 33) := ⟨_, rfl⟩
  have hz1 : w1.heap.size = w.heap.size + 1 := by rw [hw1]; simp
  rw [← hw1] at ka1 hb1
  have ka2 : Keep [] w1 (w1.alloc (.cells #[.int .i64 0, .slice none 0 0] 33)) := Keep.alloc _ _
  have hb2 := Blk.new w1 33 #[.int .i64 0, .slice none 0 0]
  obtain ⟨w2, hw2⟩ : ∃ w2, w2 = w1.alloc (.cells #[.int .i64 0, .slice none 0 0] 33) := ⟨_, rfl⟩
  have hz2 : w2.heap.size = w.heap.size + 2 := by rw [hw2]; simp [hz1]
  rw [← hw2] at ka2 hb2
  rw [hz1] at hb2
  have hmk := mk_vals12 m hq w2
  have ka3 : Keep [] w2 (w2.alloc (.cells (madeCells zv12 (m * 5)) 36)) := Keep.alloc _ _
  have hb3 := zrow12 (n := m) hq (Blk.new w2 36 (madeCells zv12 (m * 5)))
  obtain ⟨w3, hw3⟩ : ∃ w3, w3 = w2.alloc (.cells (madeCells zv12 (m * 5)) 36) := ⟨_, rfl⟩
  rw [← hw3] at ka3 hb3 hmk
  rw [hz2] at hb3 hmk
  have hz3 : w.heap.size + 2 < w3.heap.size := hb3.lt
  have hbox := (hb1.keep ka2 (by simp)).keep ka3 (by simp)
  have hbox2 := hb1.keep ka2 (by simp)
  have hres := hb2.keep ka3 (by simp)
  have x1 := (hbox.cell 1).trans (show _ = some (Value.slice A m c) from rfl)
  have y1 := (hbox2.cell 1).trans (show _ = some (Value.slice A m c) from rfl)
  have HW := Lib.hid (And.intro hbox (And.intro hres (And.intro ((ka1.trans ka2).trans ka3) hb3)))
  have HW2 := Lib.hid (show w2 = (w.alloc (.cells #[.int .i64 K, .slice A m c] 33)).alloc (.cells #[.int .i64 0, .slice none 0 0] 33) by rw [hw2, hw1])
  clear hl hfm hm hb hp hbox hbox2 hres ka1 ka2 ka3 hb1 hb2 hb3 hw1 hw2 hw3 hz1 hz2
  go_enter Tryd.func21, Tryd.ntmps21
  go_upto_region 1 with fail
  rw [← HW2.out]
  go_wp2
  clear hmk x1 y1
  go_loopw [15] (fun x wr => ∃ j : Nat, j ≤ m ∧ x = .int .i64 j ∧ Row wr 36 (w.heap.size + 2) (m * 5) (m * 5) (valC (fun i => if i < j then plainR R (fs.getD i z0) else z0)) ∧ Keep [w.heap.size + 2] w3 wr) (fun x _ => m - (RowKit.intOf x).toNat)
  case atStart => exact ⟨0, by omega, rfl, HW.out.2.2.2.congr (fun i _ => by unfold valC; simp), Keep.refl _ _⟩
  case round =>
  obtain ⟨j, hj, rfl, hrow, hK⟩ := hrel
  by_cases hlt : j < m
  case neg =>
    obtain rfl : j = m := by omega
    have hbx := HW.out.1.keep hK (by simp)
    have hbr := HW.out.2.1.keep hK (by simp)
    have x0 := (hbx.cell 0).trans (show _ = some (Value.int .i64 K) from rfl)
    have z0' := (hbr.cell 0).trans (show _ = some (Value.int .i64 0) from rfl)
    have z1' := (hbr.cell 1).trans (show _ = some (Value.slice none 0 0) from rfl)
    have f0 := hbr.frozen 0
    have f1 := hbr.frozen 1
    have hb5 := Blk.set2 hbr (.int .i64 K) (.slice (some ⟨w.heap.size + 2, 0, none⟩) j j)
    have HE := Lib.hid (And.intro hrow hK)
    have kg : (Tryd.prog.info? 33).map (·.size) = some (#[.int .i64 K, .slice (some ⟨w.heap.size + 2, 0, none⟩) j j] : Array Value).size := by kernel_rfl
    clear hrow hK hbx hbr
    go_wp2
    (try simp only [Exit.inBlock, Exit.then])
    refine bodyPost_ret (v := .agg #[.int .i64 K, .slice (some ⟨w.heap.size + 2, 0, none⟩) j j]) ?_ rfl ?_
    · exact results_cell_row rfl _ _ (w.heap.size + 1) 33 #[.int .i64 K, .slice (some ⟨w.heap.size + 2, 0, none⟩) j j] (0, 0) _ rfl hb5 Tryd.underlying33 rfl kg
    have hk6 : Keep [w.heap.size + 1] wr ((wr.setCell ⟨w.heap.size + 1, 0, none⟩ (.int .i64 K)).setCell ⟨w.heap.size + 1, 1, none⟩ (.slice (some ⟨w.heap.size + 2, 0, none⟩) j j)) := (Keep.setCell _ _ (by simp) _).trans (Keep.setCell _ _ (by simp) _)
    refine ⟨w.heap.size + 2, rfl, by omega, (HE.out.1.keep hk6 (by simp)).congr (fun i hi => valC_congr (m := j) (fun a ha => by rw [if_pos ha, HN.out a ha]) hi), ?_⟩
    exact (HW.out.2.2.1.since HE.out.2 (by simp)).since hk6 (by simp)
  have hKw := HW.out.2.2.1.since hK (by simp)
  obtain ⟨bF, oF, rfl, hbF, hcF⟩ := HL.out.1.cells (by omega)
  obtain ⟨q0, q1, q2, q3, q4⟩ := hcF j hlt
  have d0 := (hKw.cell (p := ⟨bF, _, none⟩) hbF (by simp)).trans q0
  have d1 := (hKw.cell (p := ⟨bF, _, none⟩) hbF (by simp)).trans q1
  have d2 := (hKw.cell (p := ⟨bF, _, none⟩) hbF (by simp)).trans q2
  have d3 := (hKw.cell (p := ⟨bF, _, none⟩) hbF (by simp)).trans q3
  have d4 := (hKw.cell (p := ⟨bF, _, none⟩) hbF (by simp)).trans q4
  have hmv := HL.out.2.2 _ (getD_mem (d := z0) (l := fs) (j := j) (by rw [HL.out.2.1]; exact hlt))
  have hnx : ∀ x, plainR R (fs.getD j z0) = x → (fun i => if i < j + 1 then plainR R (fs.getD i z0) else z0) j = x ∧ ∀ k, k ≠ j → (fun i => if i < j + 1 then plainR R (fs.getD i z0) else z0) k = (fun i => if i < j then plainR R (fs.getD i z0) else z0) k := fun x hx => ⟨by dsimp only; rw [if_pos (by omega), hx], fun k hk => by
    dsimp only
    by_cases h1 : k < j
    · rw [if_pos h1, if_pos (by omega)]
    · rw [if_neg h1, if_neg (by omega)]⟩
  obtain ⟨V, hV⟩ : ∃ V, fs.getD j z0 = V := ⟨_, rfl⟩
  rw [hV] at d0 d1 d2 d3 d4 hmv hnx
  have HNX := Lib.hid hnx
  obtain ⟨x0, x1, x2, x3, x4⟩ := V
  dsimp only at d0 d1 d2 d3 d4
  unfold MayV at hmv
  dsimp only at hmv
  have kb : Keep [] wr (wr.alloc (.cells #[.int .i64 x0, .int .i64 x1, .int .u64 x2, .int .u64 x3, .int .i64 x4] 36)) := Keep.alloc _ _
  have hbv := Blk.new wr 36 #[.int .i64 x0, .int .i64 x1, .int .u64 x2, .int .u64 x3, .int .i64 x4]
  have hmt := meant_v x0 x1 x2 x3 x4 hmv.1 hmv.2.1 (wr.alloc (.cells #[.int .i64 x0, .int .i64 x1, .int .u64 x2, .int .u64 x3, .int .i64 x4] 36))
  have HD := Lib.hid (And.intro (hrow.keep kb (by simp)) (And.intro hbv (And.intro (hK.trans kb.of_nil) (hKw.trans kb))))
  have hwr : w.heap.size + 2 < wr.heap.size := hrow.lt
  have hjI : (j : Int) < m := by omega
  clear hcF q0 q1 q2 q3 q4 hV hnx kb hbv hrow hK hKw
  by_cases h3 : x0 = 3
  case neg =>
    have h3' : (x0 == 3) = false := by simpa using h3
    obtain ⟨P, hP⟩ : ∃ P, plainV ⟨x0, x1, x2, x3, x4⟩ = P := ⟨_, rfl⟩
    have HP := Lib.hid (HNX.out P (by unfold plainR; rw [if_neg h3]; exact hP))
    rw [hP] at hmt
    obtain ⟨y0, y1, y2, y3, y4⟩ := P
    dsimp only at hmt
    clear hP
    go_wp2_with fail
    (with_reducible refine hmt.mono ?_)
    rintro e w4 ⟨rfl, k4⟩
    have hrow4 := HD.out.1.keep k4 (by simp)
    have hbv4 := HD.out.2.1.keep k4 (by simp)
    have c0 := hrow4.cell (i := j * 5) (by omega)
    have c1 := hrow4.cell (i := j * 5 + 1) (by omega)
    have c2 := hrow4.cell (i := j * 5 + 2) (by omega)
    have c3 := hrow4.cell (i := j * 5 + 3) (by omega)
    have c4 := hrow4.cell (i := j * 5 + 4) (by omega)
    have f0 := hrow4.frozen (j * 5)
    have f1 := hrow4.frozen (j * 5 + 1)
    have f2 := hrow4.frozen (j * 5 + 2)
    have f3 := hrow4.frozen (j * 5 + 3)
    have f4 := hrow4.frozen (j * 5 + 4)
    have hk5 := keep_set5 w4 (w.heap.size + 2) j (.int .i64 y0) (.int .i64 y1) (.int .u64 y2) (.int .u64 y3) (.int .i64 y4)
    have hrow5 := row_set5 hrow4 j ⟨y0, y1, y2, y3, y4⟩ HP.out.1 HP.out.2
    have v0 := ((hbv4.keep hk5 (by simp; omega)).cell 0).trans (show _ = some (Value.int .i64 x0) from rfl)
    have HE := Lib.hid (And.intro hrow5 ((HD.out.2.2.1.trans k4.of_nil).trans hk5))
    clear k4 hmt hrow4 hbv4 hk5 hrow5 d0 d1 d2 d3 d4
    generalize valC (fun i => if i < j then plainR R (fs.getD i z0) else z0) = VC at *
    go_wp2_with fail
    go_roundw
    case rel => exact ⟨j + 1, by omega, by go_num, HE.out.1, HE.out.2⟩
    case measure => simp [RowKit.intOf]; omega
  subst h3
  rw [show plainV ⟨3, x1, x2, x3, x4⟩ = ⟨3, 0, 0, 0, x4⟩ from rfl] at hmt
  dsimp only at hmt
  obtain ⟨k, rfl⟩ : ∃ k : Nat, x4 = k := ⟨x4.toNat, by have := hmv.2.2 rfl; omega⟩
  have hkn : k < n := by have := hmv.2.2 rfl; omega
  have hkI : (k : Int) < n := by omega
  have HP := Lib.hid (HNX.out ⟨3, 0, 0, 0, place R (k : Nat)⟩ (by unfold plainR; rw [if_pos rfl]))
  go_wp2_with fail
  (with_reducible refine hmt.mono ?_)
  rintro e w4 ⟨rfl, k4⟩
  have hrow4 := HD.out.1.keep k4 (by simp)
  have hbv4 := HD.out.2.1.keep k4 (by simp)
  have c0 := hrow4.cell (i := j * 5) (by omega)
  have c1 := hrow4.cell (i := j * 5 + 1) (by omega)
  have c2 := hrow4.cell (i := j * 5 + 2) (by omega)
  have c3 := hrow4.cell (i := j * 5 + 3) (by omega)
  have c4 := hrow4.cell (i := j * 5 + 4) (by omega)
  have f0 := hrow4.frozen (j * 5)
  have f1 := hrow4.frozen (j * 5 + 1)
  have f2 := hrow4.frozen (j * 5 + 2)
  have f3 := hrow4.frozen (j * 5 + 3)
  have f4 := hrow4.frozen (j * 5 + 4)
  have hk5 := keep_set5 w4 (w.heap.size + 2) j (.int .i64 3) (.int .i64 0) (.int .u64 0) (.int .u64 0) (.int .i64 (k : Nat))
  have hrow5 := row_set5 (F' := fun i => if i = j then ⟨3, 0, 0, 0, (k : Nat)⟩ else if i < j then plainR R (fs.getD i z0) else z0) hrow4 j ⟨3, 0, 0, 0, (k : Nat)⟩ (by simp) (fun a ha => by simp [ha])
  obtain ⟨w5, hw5⟩ : ∃ w5, w5 = ((((w4.setCell ⟨w.heap.size + 2, j * 5, none⟩ (.int .i64 3)).setCell ⟨w.heap.size + 2, j * 5 + 1, none⟩ (.int .i64 0)).setCell ⟨w.heap.size + 2, j * 5 + 2, none⟩ (.int .u64 0)).setCell ⟨w.heap.size + 2, j * 5 + 3, none⟩ (.int .u64 0)).setCell ⟨w.heap.size + 2, j * 5 + 4, none⟩ (.int .i64 (k : Nat)) := ⟨_, rfl⟩
  rw [← hw5] at hk5 hrow5
  have hbv5 := hbv4.keep hk5 (by simp; omega)
  have v0 := (hbv5.cell 0).trans (show _ = some (Value.int .i64 3) from rfl)
  have hw4k : Keep [] w w4 := HD.out.2.2.2.trans k4
  have hw5k : Keep [] w w5 := hw4k.since hk5 (by simp)
  have v4 : w5.drew.cell? ⟨wr.heap.size, 4, none⟩ = some (.int .i64 (k : Nat)) := (hbv5.cell 4).trans rfl
  have r1 : w5.drew.cell? ⟨r, 1, none⟩ = some (.slice (some ⟨s, 0, none⟩) n n) := ((HB.out.1.keep hw5k (by simp)).cell 1).trans rfl
  have s1 : w5.drew.cell? ⟨s, k, none⟩ = some (.int .i64 (place R (k : Nat))) := (HB.out.2.keep hw5k (by simp)).cell hkn
  have g4 : w5.drew.cell? ⟨w.heap.size + 2, j * 5 + 4, none⟩ = some (.int .i64 (k : Nat)) := (hrow5.cell (i := j * 5 + 4) (by omega)).trans (by rw [valC_4, if_pos rfl])
  have h4 : w5.drew.frozen? ⟨w.heap.size + 2, j * 5 + 4, none⟩ = false := hrow5.frozen (j * 5 + 4)
  have hrow6 : Row (w5.setCell ⟨w.heap.size + 2, j * 5 + 4, none⟩ (.int .i64 (place R (k : Nat)))) 36 (w.heap.size + 2) (m * 5) (m * 5) (valC (fun i => if i < j + 1 then plainR R (fs.getD i z0) else z0)) := (hrow5.set_ (j * 5 + 4) (.int .i64 (place R (k : Nat)))).congr (fun i hi => by
    by_cases e4 : i = j * 5 + 4
    · have h1 := HP.out.1
      rw [if_pos e4, e4, valC_4]
      rw [h1]
    · rw [if_neg e4]
      by_cases ej : i / 5 = j
      · have h1 := HP.out.1
        unfold valC
        dsimp only
        rw [ej, h1, if_pos rfl]
        have : i % 5 ≠ 4 := by omega
        by_cases i0 : i % 5 = 0
        · rw [if_pos i0, if_pos i0]
        rw [if_neg i0, if_neg i0]
        by_cases i1 : i % 5 = 1
        · rw [if_pos i1, if_pos i1]
        rw [if_neg i1, if_neg i1]
        by_cases i2 : i % 5 = 2
        · rw [if_pos i2, if_pos i2]
        rw [if_neg i2, if_neg i2, if_pos (by omega), if_pos (by omega)]
      · have h2 := HP.out.2 (i / 5) ej
        unfold valC
        dsimp only
        rw [h2, if_neg ej])
  have HE := Lib.hid (And.intro hrow6 ((((HD.out.2.2.1.trans k4.of_nil).trans hk5).trans (Keep.setCell (own := [w.heap.size + 2]) w5 ⟨w.heap.size + 2, j * 5 + 4, none⟩ (by simp) (.int .i64 (place R (k : Nat)))))))
  clear k4 hmt hrow4 hbv4 hk5 hrow5 hbv5 hrow6 hw4k hw5k d0 d1 d2 d3 d4
  generalize valC (fun i => if i < j then plainR R (fs.getD i z0) else z0) = VC at *
  generalize place R (k : Nat) = py at *
  go_upto_region 6 with fail
  rw [← hw5]
  clear hw5 c0 c1 c2 c3 c4 f0 f1 f2 f3 f4
  go_wp2_with fail
  go_region
  go_wp2_with fail
  go_roundw
  case rel => exact ⟨j + 1, by omega, by go_num, HE.out.1.keep (Keep.drew (own := []) _) (by simp), HE.out.2.trans (Keep.drew _)⟩
  case measure => simp [RowKit.intOf]; omega
end Go.Proofs.YtigclopkoolocaaDoor
