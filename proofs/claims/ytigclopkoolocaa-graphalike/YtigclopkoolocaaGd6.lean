/-
  The program's package graph: Reach; a node, renumbered; places. No conditions but what is in memory.
-/
import Derived.Test.YtigclopkoolocaaGd5
namespace Go.Proofs.Ytigclopkoolocaa
open Go.RowKit Go.Flo Go.Bit
set_option maxRecDepth 100000

set_option maxHeartbeats 1000000 in
theorem reach_any (w : World) (A0 A1 A2 Al : Option Addr) (c0 c1 c2 cl : Nat) (g : Gr) (l : List Int) (h : GIn w A0 A1 A2 c0 c1 c2 g) (hl : IntL w Al cl l) :
    Calls Try.prog 14 #[.agg #[.slice A0 g.nodes.length c0, .slice A1 g.roots.length c1, .slice A2 g.weaks.length c2], .slice Al l.length cl] w (BolPost (reachB g l) w) := by
  have ka : Keep [] w (w.alloc (.cells #[.slice A0 g.nodes.length c0, .slice A1 g.roots.length c1, .slice A2 g.weaks.length c2] 25)) := Keep.alloc _ _
  have hb := Blk.new w 25 #[.slice A0 g.nodes.length c0, .slice A1 g.roots.length c1, .slice A2 g.weaks.length c2]
  obtain ⟨w1, hw1⟩ : ∃ w1, w1 = w.alloc (.cells #[.slice A0 g.nodes.length c0, .slice A1 g.roots.length c1, .slice A2 g.weaks.length c2] 25) := ⟨_, rfl⟩
  rw [← hw1] at ka hb
  have hmay := mayg_any w1 A0 A1 A2 c0 c1 c2 g (h.keep ka)
  have HB := Lib.hid hb
  have HKA := Lib.hid ka
  by_cases hM : MayG g
  case neg =>
    rw [show reachB g l = [] from if_neg hM]
    rw [decide_eq_false hM] at hmay
    clear h hl hM ka hb
    go_enter Try.func14, Try.ntmps14
    subst hw1
    go_wp2_with fail
    (with_reducible refine hmay.mono ?_)
    rintro e w2 ⟨rfl, k2⟩
    go_wp2
    go_ret
    exact ⟨none, 0, rfl, ⟨by simp, by omega, by simp⟩, HKA.out.trans k2⟩
  rw [decide_eq_true hM] at hmay
  have h4 := hM.1
  have hord := fun X (hk : Keep [] w X) => walk_any X A0 A1 A2 Al c0 c1 c2 cl g l (h.keep hk) hM (hl.keep hk)
  rw [show reachB g l = (List.range g.n).map (fun i => decide (i ∈ orderG g l)) from if_pos hM]
  have hf := orderG_fine g l
  obtain ⟨R, hR⟩ : ∃ R, orderG g l = R := ⟨_, rfl⟩
  rw [hR] at hord hf ⊢
  unfold WalkPost at hord
  have hnn : g.nodes.length = g.n := rfl
  rw [hnn] at hmay hord HB hw1 ⊢
  generalize g.n = n at *
  generalize g.roots.length = n1 at *
  generalize g.weaks.length = n2 at *
  generalize l.length = q at *
  have HO := Lib.hid hord
  have HF := Lib.hid hf
  have hrl := hf.len
  clear h hl hM ka hb hord hf hR hnn
  go_enter Try.func14, Try.ntmps14
  subst hw1
  go_wp2_with fail
  (with_reducible refine hmay.mono ?_)
  rintro e w2 ⟨rfl, k2⟩
  have hs2 : w.heap.size ≤ w2.heap.size := (HKA.out.trans k2).size
  have hb2 := HB.out.keep k2 (by simp)
  have y0 := (hb2.cell 0).trans (show _ = some (Value.slice A0 n c0) from rfl)
  have y1 := (hb2.cell 1).trans (show _ = some (Value.slice A1 n1 c1) from rfl)
  have y2 := (hb2.cell 2).trans (show _ = some (Value.slice A2 n2 c2) from rfl)
  have hord := HO.out w2 (HKA.out.trans k2)
  have HK2 := Lib.hid (And.intro hb2 (HKA.out.trans k2))
  clear hmay k2 hb2
  go_wp2_with fail
  (with_reducible refine hord.mono ?_)
  rintro e w3 ⟨A, c, s, rfl, hil, _, k3⟩
  have hb3 := HK2.out.1.keep k3 (by simp)
  have k4 : Keep [] w3 (w3.alloc (.cells #[.slice A R.length c, .slice (some ⟨s, 0, none⟩) n n] 48)) := Keep.alloc _ _
  have hbw := Blk.new w3 48 #[.slice A R.length c, .slice (some ⟨s, 0, none⟩) n n]
  obtain ⟨w4, hw4⟩ : ∃ w4, w4 = w3.alloc (.cells #[.slice A R.length c, .slice (some ⟨s, 0, none⟩) n n] 48) := ⟨_, rfl⟩
  rw [← hw4] at k4 hbw
  have hz4 : w4.heap.size = w3.heap.size + 1 := by rw [hw4]; simp
  have hmk := mk_bools n (by omega) w4
  have hrow := Row.made w4 4 (.bool false) rfl n (by unfold maxLen; omega)
  rw [Nat.mul_one, show (Value.bool false).cells = #[Value.bool false] from rfl] at hrow
  have k5 : Keep [] w4 (w4.alloc (.cells (madeCells #[Value.bool false] n) 4)) := Keep.alloc _ _
  obtain ⟨w5, hw5⟩ : ∃ w5, w5 = w4.alloc (.cells (madeCells #[Value.bool false] n) 4) := ⟨_, rfl⟩
  rw [← hw5] at k5 hrow hmk
  have hbw5 := hbw.keep k5 (by simp)
  have x0 := ((hb3.keep k4 (by simp)).cell 0).trans (show _ = some (Value.slice A0 n c0) from rfl)
  have v0 := (hbw5.cell 0).trans (show _ = some (Value.slice A R.length c) from rfl)
  have hrc := hil.nc
  have hrm := hil.cap
  rw [natI_len] at hrc
  have hrs : w4.heap.size < w5.heap.size := hrow.lt
  have hs4 : w.heap.size ≤ w4.heap.size := Nat.le_trans HK2.out.2.size (Nat.le_trans k3.size k4.size)
  have hs34 : w3.heap.size ≤ w4.heap.size := k4.size
  have H5 := Lib.hid (And.intro (hil.keep (k4.trans k5)) (And.intro hrow (And.intro (((HK2.out.2.trans k3).trans k4).trans k5) hw4)))
  have H5b := Lib.hid (hil.keep k4)
  have H5c := Lib.hid k5
  clear hord y0 y1 y2 hil k3 k4 k5 hb3 hbw hbw5 hrow hw5
  go_upto_region 4 with fail
  rw [← hw4]
  clear hw4 hz4
  go_wp2
  go_loopw [22] (fun x wr => ∃ j : Nat, j ≤ R.length ∧ x = .int .i64 j ∧ Row wr 4 w4.heap.size n n (fun i => .bool (decide (i ∈ R.take j))) ∧ Keep [w4.heap.size] w5 wr) (fun x _ => R.length - (RowKit.intOf x).toNat)
  case atStart => exact ⟨0, by omega, rfl, H5.out.2.1.congr (fun i _ => by simp), Keep.refl _ _⟩
  case round =>
  obtain ⟨j, hj, rfl, hrow, hK⟩ := hrel
  by_cases hlt : j < R.length
  case neg =>
    obtain rfl : j = R.length := by omega
    rw [List.take_length] at hrow
    have HH := Lib.hid (And.intro hrow hK)
    clear hrow hK
    go_wp2
    go_ret
    refine ⟨some ⟨w4.heap.size, 0, none⟩, n, by simp, ⟨by simp, by omega, fun _ => ⟨w4.heap.size, 0, rfl, HH.out.1.lt, fun j hj => ?_⟩⟩, H5.out.2.2.1.since HH.out.2 (by simp; omega)⟩
    have hj2 : j < n := by simpa using hj
    rw [Nat.zero_add, HH.out.1.cell hj2]
    simp [List.getD_eq_getElem?_getD, hj2]
  obtain ⟨bR, oR, rfl, hbR, hcR⟩ := H5b.out.cells (by rw [natI_len]; omega)
  have cj0 := hcR j (by rw [natI_len]; exact hlt)
  have cj1 := (H5c.out.cell (p := ⟨bR, oR + j, none⟩) hbR (by simp)).trans cj0
  have cj := (hK.cell (p := ⟨bR, oR + j, none⟩) (by show bR < _; omega) (by simp; omega)).trans cj1
  rw [natI_get R hlt] at cj
  have hmem : R.getD j 0 ∈ R := getD_mem hlt
  have hin := HF.out.2 _ hmem
  have ht : R.take (j + 1) = R.take j ++ [R.getD j 0] := by
    rw [List.take_add_one, List.getD_eq_getElem?_getD, List.getElem?_eq_getElem hlt]
    rfl
  obtain ⟨i, hi⟩ : ∃ i, R.getD j 0 = i := ⟨_, rfl⟩
  rw [hi] at cj hin ht
  have fz := hrow.frozen i
  have ci := hrow.cell hin
  have hiI : (i : Int) < n := by omega
  have hrow2 : Row (wr.setCell ⟨w4.heap.size, i, none⟩ (.bool true)) 4 w4.heap.size n n (fun a => .bool (decide (a ∈ R.take (j + 1)))) := (hrow.set_ i (.bool true)).congr (fun a ha => by
    rw [ht]
    by_cases e : a = i
    · subst e; simp
    · rw [if_neg e]
      congr 1
      simp [e])
  have HH := Lib.hid (And.intro hrow2 (hK.trans (Keep.setCell (own := [w4.heap.size]) wr ⟨w4.heap.size, i, none⟩ (by simp) (.bool true))))
  clear hcR cj0 cj1 hmem ht hi hrow hK hrow2
  go_wp2
  go_roundw
  case rel => exact ⟨j + 1, by omega, by go_num, HH.out.1, HH.out.2⟩
  case measure => simp [RowKit.intOf]; omega

/-- A row of places, told. -/
def PlacesPost (R : List Nat) (l : List Int) (w : World) (e : Ending) (w' : World) : Prop :=
  ∃ b, e = .returned (.slice (some ⟨b, 0, none⟩) l.length l.length) ∧ w.heap.size ≤ b ∧ Row w' 3 b l.length l.length (fun i => .int .i64 (place R (l.getD i 0))) ∧ Keep [] w w'

set_option maxHeartbeats 1000000 in
theorem places_any (w : World) (r s n c : Nat) (R : List Nat) (v : Value) (A : Option Addr) (l : List Int) (hb : Blk w r 48 #[v, .slice (some ⟨s, 0, none⟩) n n]) (hp : Row w 3 s n n (fun i => .int .i64 (place R (i : Nat)))) (hl : IntL w A c l) (hq : l.length ≤ 65536) (hm : ∀ x ∈ l, MayI n x) :
    Calls Try.prog 26 #[.pointer (some ⟨r, 0, none⟩), .slice A l.length c] w (PlacesPost R l w) := by
  unfold PlacesPost
  obtain ⟨q, hql⟩ : ∃ q, l.length = q := ⟨_, rfl⟩
  have hlc := hl.nc
  have hlm := hl.cap
  rw [hql] at hq hlc ⊢
  have HL := Lib.hid (And.intro hl (And.intro hql hm))
  have HB := Lib.hid (And.intro hb hp)
  have hrw := hb.lt
  have hsw := hp.lt
  have hmk := mk_ints q hq w
  have hrow := Row.made w 3 (.int .i64 0) rfl q (by unfold maxLen; omega)
  rw [Nat.mul_one, show (Value.int .i64 0).cells = #[Value.int .i64 0] from rfl] at hrow
  have k1 : Keep [] w (w.alloc (.cells (madeCells #[Value.int .i64 0] q) 3)) := Keep.alloc _ _
  obtain ⟨w1, hw1⟩ : ∃ w1, w1 = w.alloc (.cells (madeCells #[Value.int .i64 0] q) 3) := ⟨_, rfl⟩
  rw [← hw1] at k1 hrow hmk
  have H1 := Lib.hid (And.intro hrow k1)
  clear hl hql hm hb hp hrow k1 hw1
  go_enter Try.func26, Try.ntmps26
  go_wp2
  clear hmk
  go_loopw [13] (fun x wr => ∃ j : Nat, j ≤ q ∧ x = .int .i64 j ∧ Row wr 3 w.heap.size q q (fun i => .int .i64 (if i < j then place R (l.getD i 0) else 0)) ∧ Keep [w.heap.size] w1 wr) (fun x _ => q - (RowKit.intOf x).toNat)
  case atStart => exact ⟨0, by omega, rfl, H1.out.1.congr (fun i _ => by simp), Keep.refl _ _⟩
  case round =>
  obtain ⟨j, hj, rfl, hrow, hK⟩ := hrel
  by_cases hlt : j < q
  case neg =>
    obtain rfl : j = q := by omega
    have HH := Lib.hid (And.intro hrow hK)
    clear hrow hK
    go_wp2
    go_ret
    exact ⟨w.heap.size, rfl, Nat.le_refl _, HH.out.1.congr (fun i hi => by rw [if_pos hi]), H1.out.2.since HH.out.2 (by simp)⟩
  have hKw := H1.out.2.since hK (by simp)
  obtain ⟨bl, ol, rfl, hbl, hcl⟩ := (HL.out.1.keep hKw).cells (by rw [HL.out.2.1]; omega)
  have cj := hcl j (by rw [HL.out.2.1]; exact hlt)
  have hmem : l.getD j 0 ∈ l := getD_mem (by rw [HL.out.2.1]; exact hlt)
  have hy := HL.out.2.2 _ hmem
  obtain ⟨y, hye⟩ : ∃ y, l.getD j 0 = y := ⟨_, rfl⟩
  rw [hye] at cj hy
  unfold MayI at hy
  have fz := hrow.frozen j
  have ci := hrow.cell hlt
  have hjI : (j : Int) < q := by omega
  have hrow1 := hrow.set_ j (.int .i64 (-1))
  have hK1 := hK.trans (Keep.setCell (own := [w.heap.size]) wr ⟨w.heap.size, j, none⟩ (by simp) (.int .i64 (-1)))
  by_cases hym : y = -1
  · subst hym
    have t1 : ((-1 : Int) == -1) = true := by decide
    have t2 : ((-1 : Int) != -1) = false := by decide
    have HH := Lib.hid (And.intro (hrow1.congr (f' := fun i => .int .i64 (if i < j + 1 then place R (l.getD i 0) else 0)) (fun a ha => by
      by_cases e : a = j
      · subst e; rw [if_pos rfl, if_pos (by omega), hye, place_neg (by omega)]
      · rw [if_neg e]
        by_cases h1 : a < j
        · rw [if_pos h1, if_pos (by omega)]
        · rw [if_neg h1, if_neg (by omega)])) hK1)
    clear hcl hmem hye hrow hK hrow1 hK1 hKw
    go_wp2
    go_roundw
    case rel => exact ⟨j + 1, by omega, by go_num, HH.out.1, HH.out.2⟩
    case measure => simp [RowKit.intOf]; omega
  obtain ⟨y, rfl⟩ : ∃ z : Nat, y = z := ⟨y.toNat, by omega⟩
  have hyn : y < n := by omega
  have t1 : ((y : Int) == -1) = false := by simp
  have t2 : ((y : Int) != -1) = true := by simp
  have hyI : (y : Int) < n := hy.2
  have hsx : s ≠ w.heap.size := by omega
  have hrx : r ≠ w.heap.size := by omega
  have hp1 := ((HB.out.2.keep hKw (by simp)).far (p := ⟨w.heap.size, j, none⟩) hsx (.int .i64 (-1))).cell hyn
  have hb1 := (((HB.out.1.keep hKw (by simp)).far (p := ⟨w.heap.size, j, none⟩) hrx (.int .i64 (-1))).cell 1).trans (show _ = some (Value.slice (some ⟨s, 0, none⟩) n n) from rfl)
  have fz1 := hrow1.frozen j
  have ci1 := hrow1.cell hlt
  rw [if_pos rfl] at ci1
  have HH := Lib.hid (And.intro ((hrow1.set_ j (.int .i64 (place R (y : Nat)))).congr (f' := fun i => .int .i64 (if i < j + 1 then place R (l.getD i 0) else 0)) (fun a ha => by
      by_cases e : a = j
      · subst e; rw [if_pos rfl, if_pos (by omega), hye]
      · rw [if_neg e, if_neg e]
        by_cases h1 : a < j
        · rw [if_pos h1, if_pos (by omega)]
        · rw [if_neg h1, if_neg (by omega)])) (hK1.trans (Keep.setCell (own := [w.heap.size]) _ ⟨w.heap.size, j, none⟩ (by simp) (.int .i64 (place R (y : Nat))))))
  clear hcl hmem hye hrow hK hrow1 hK1 hKw
  generalize place R (y : Nat) = py at *
  go_wp2_with fail
  go_roundw
  case rel => exact ⟨j + 1, by omega, by go_num, HH.out.1, HH.out.2⟩
  case measure => simp [RowKit.intOf]; omega
end Go.Proofs.Ytigclopkoolocaa
