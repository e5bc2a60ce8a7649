/-
  The program's package graph: Reach; a node, renumbered; places. No conditions but what is in memory.
-/
import Derived.Test.YtigclopkoolocaaDoorGd5
namespace Go.Proofs.YtigclopkoolocaaDoor
open Go.RowKit Go.Flo Go.Bit
set_option maxRecDepth 100000

/-- A row of places, told. -/
def PlacesPost (R : List Nat) (l : List Int) (w : World) (e : Ending) (w' : World) : Prop :=
  ∃ b, e = .returned (.slice (some ⟨b, 0, none⟩) l.length l.length) ∧ w.heap.size ≤ b ∧ Row w' 3 b l.length l.length (fun i => .int .i64 (place R (l.getD i 0))) ∧ Keep [] w w'

set_option maxHeartbeats 1000000 in
theorem places_any (w : World) (r s n c : Nat) (R : List Nat) (v : Value) (A : Option Addr) (l : List Int) (hb : Blk w r 42 #[v, .slice (some ⟨s, 0, none⟩) n n]) (hp : Row w 3 s n n (fun i => .int .i64 (place R (i : Nat)))) (hl : IntL w A c l) (hq : l.length ≤ 65536) (hm : ∀ x ∈ l, MayI n x) :
    Calls Tryd.prog 22 #[.pointer (some ⟨r, 0, none⟩), .slice A l.length c] w (PlacesPost R l w) := by
  unfold PlacesPost
  obtain ⟨q, hql⟩ : ∃ q, l.length = q := ⟨_, rfl⟩
  have hlc := hl.nc
  have hlm := hl.cap
  rw [hql] at hq hlc ⊢
  have HL := Lib.hid (And.intro hl (And.intro hql hm))
  have HB := Lib.hid (And.intro hb hp)
  have hrw := hb.lt
  have hsw := hp.lt
  have hmk := mk_ints q hq w
  have hrow := Row.made w 3 (.int .i64 0) rfl q (by unfold maxLen; omega)
  rw [Nat.mul_one, show (Value.int .i64 0).cells = #[Value.int .i64 0] from rfl] at hrow
  have k1 : Keep [] w (w.alloc (.cells (madeCells #[Value.int .i64 0] q) 3)) := Keep.alloc _ _
  obtain ⟨w1, hw1⟩ : ∃ w1, w1 = w.alloc (.cells (madeCells #[Value.int .i64 0] q) 3) := ⟨_, rfl⟩
  rw [← hw1] at k1 hrow hmk
  have H1 := Lib.hid (And.intro hrow k1)
  clear hl hql hm hb hp hrow k1 hw1
  go_enter Tryd.func22, Tryd.ntmps22
  go_wp2
  clear hmk
  go_loopw [13] (fun x wr => ∃ j : Nat, j ≤ q ∧ x = .int .i64 j ∧ Row wr 3 w.heap.size q q (fun i => .int .i64 (if i < j then place R (l.getD i 0) else 0)) ∧ Keep [w.heap.size] w1 wr) (fun x _ => q - (RowKit.intOf x).toNat)
  case atStart => exact ⟨0, by omega, rfl, H1.out.1.congr (fun i _ => by simp), Keep.refl _ _⟩
  case round =>
  obtain ⟨j, hj, rfl, hrow, hK⟩ := hrel
  by_cases hlt : j < q
  case neg =>
    obtain rfl : j = q := by omega
    have HH := Lib.hid (And.intro hrow hK)
    clear hrow hK
    go_wp2
    go_ret
    exact ⟨w.heap.size, rfl, Nat.le_refl _, HH.out.1.congr (fun i hi => by rw [if_pos hi]), H1.out.2.since HH.out.2 (by simp)⟩
  have hKw := H1.out.2.since hK (by simp)
  obtain ⟨bl, ol, rfl, hbl, hcl⟩ := (HL.out.1.keep hKw).cells (by rw [HL.out.2.1]; omega)
  have cj := hcl j (by rw [HL.out.2.1]; exact hlt)
  have hmem : l.getD j 0 ∈ l := getD_mem (by rw [HL.out.2.1]; exact hlt)
  have hy := HL.out.2.2 _ hmem
  obtain ⟨y, hye⟩ : ∃ y, l.getD j 0 = y := ⟨_, rfl⟩
  rw [hye] at cj hy
  unfold MayI at hy
  have fz := hrow.frozen j
  have ci := hrow.cell hlt
  have hjI : (j : Int) < q := by omega
  have hrow1 := hrow.set_ j (.int .i64 (-1))
  have hK1 := hK.trans (Keep.setCell (own := [w.heap.size]) wr ⟨w.heap.size, j, none⟩ (by simp) (.int .i64 (-1)))
  by_cases hym : y = -1
  · subst hym
    have t1 : ((-1 : Int) == -1) = true := by decide
    have t2 : ((-1 : Int) != -1) = false := by decide
    have HH := Lib.hid (And.intro (hrow1.congr (f' := fun i => .int .i64 (if i < j + 1 then place R (l.getD i 0) else 0)) (fun a ha => by
      by_cases e : a = j
      · subst e; rw [if_pos rfl, if_pos (by omega), hye, place_neg (by omega)]
      · rw [if_neg e]
        by_cases h1 : a < j
        · rw [if_pos h1, if_pos (by omega)]
        · rw [if_neg h1, if_neg (by omega)])) hK1)
    clear hcl hmem hye hrow hK hrow1 hK1 hKw
    go_wp2
    go_roundw
    case rel => exact ⟨j + 1, by omega, by go_num, HH.out.1, HH.out.2⟩
    case measure => simp [RowKit.intOf]; omega
  obtain ⟨y, rfl⟩ : ∃ z : Nat, y = z := ⟨y.toNat, by omega⟩
  have hyn : y < n := by omega
  have t1 : ((y : Int) == -1) = false := by simp
  have t2 : ((y : Int) != -1) = true := by simp
  have hyI : (y : Int) < n := hy.2
  have hsx : s ≠ w.heap.size := by omega
  have hrx : r ≠ w.heap.size := by omega
  have hp1 := ((HB.out.2.keep hKw (by simp)).far (p := ⟨w.heap.size, j, none⟩) hsx (.int .i64 (-1))).cell hyn
  have hb1 := (((HB.out.1.keep hKw (by simp)).far (p := ⟨w.heap.size, j, none⟩) hrx (.int .i64 (-1))).cell 1).trans (show _ = some (Value.slice (some ⟨s, 0, none⟩) n n) from rfl)
  have fz1 := hrow1.frozen j
  have ci1 := hrow1.cell hlt
  rw [if_pos rfl] at ci1
  have HH := Lib.hid (And.intro ((hrow1.set_ j (.int .i64 (place R (y : Nat)))).congr (f' := fun i => .int .i64 (if i < j + 1 then place R (l.getD i 0) else 0)) (fun a ha => by
      by_cases e : a = j
      · subst e; rw [if_pos rfl, if_pos (by omega), hye]
      · rw [if_neg e, if_neg e]
        by_cases h1 : a < j
        · rw [if_pos h1, if_pos (by omega)]
        · rw [if_neg h1, if_neg (by omega)])) (hK1.trans (Keep.setCell (own := [w.heap.size]) _ ⟨w.heap.size, j, none⟩ (by simp) (.int .i64 (place R (y : Nat))))))
  clear hcl hmem hye hrow hK hrow1 hK1 hKw
  generalize place R (y : Nat) = py at *
  go_wp2_with fail
  go_roundw
  case rel => exact ⟨j + 1, by omega, by go_num, HH.out.1, HH.out.2⟩
  case measure => simp [RowKit.intOf]; omega
end Go.Proofs.YtigclopkoolocaaDoor
