/-
  The program's package graph: slices.Repeat of one number. No conditions but what is in memory.
-/
import Derived.Test.YtigclopkoolocaaDoorGd2
import Derived.Test.YtigclopkoolocaaDoorWord
namespace Go.Proofs.YtigclopkoolocaaDoor
open Go.RowKit Go.Flo Go.Bit
set_option maxRecDepth 100000

theorem and_32 (u : Nat) (h : u < 4294967296) : bits BinOp.and IntKind.u64 (u : Int) 4294967295 = (u : Int) := by
  have := and_mask u 32 (by omega) (by decide)
  rw [show (((2 : Nat) ^ 32 - 1 : Nat) : Int) = 4294967295 by decide] at this
  rw [this, Nat.mod_eq_of_lt (by omega)]

theorem mul64_one (n : Nat) (hn : n ≤ 65536) (w : World) : Calls Tryd.prog 59 #[.int .u64 1, .int .u64 (n : Nat)] w fun e w' => e = .returned (.tuple #[.int .u64 0, .int .u64 (n : Nat)]) ∧ w = w' := by
  have e1 : bits BinOp.and IntKind.u64 1 4294967295 = 1 := by decide
  have e2 : bits BinOp.and IntKind.u64 (n : Int) 4294967295 = (n : Int) := and_32 n (by omega)
  have e3 : bits BinOp.and IntKind.u64 0 4294967295 = 0 := by decide
  have e4 : (n : Int) / 4294967296 = 0 := by omega
  have e5 : IntKind.u64.wrap (n : Int) = (n : Int) := by rw [IntKind.wrap_u64]; omega
  have e6 : IntKind.u64.wrap 0 = 0 := by decide
  go_enter Tryd.func59, Tryd.ntmps59
  go_wp2
  go_ret2
  exact ⟨rfl, rfl⟩

theorem mul_one_any (n : Nat) (hn : n ≤ 65536) (w : World) : Calls Tryd.prog 50 #[.int .u64 1, .int .u64 (n : Nat)] w fun e w' => e = .returned (.tuple #[.int .u64 0, .int .u64 (n : Nat)]) ∧ w = w' := by
  have HM := mul64_one n hn w
  go_enter Tryd.func50, Tryd.ntmps50
  go_wp2_with fail
  (with_reducible refine HM.mono ?_)
  rintro e w2 ⟨rfl, rfl⟩
  clear HM
  go_wp2
  go_ret2
  exact ⟨rfl, rfl⟩

/-- copy, from a row's start to its own place behind. -/
theorem run_copy_on {P : Program} {w : World} (dT sT ty elem : TypeId) (hu : P.underlying dT = some (.slice elem)) (hsz : (P.info? elem).map (·.size) = some 1)
    (g n cap m q : Nat) (t : TypeId) (x y : Value) (hx : x.oneCell' = true) (hm : m ≤ n) (c1 c2 : Nat) (hg : Row w t g n cap (fun i => if i < m then x else y)) (hq : q = Nat.min m (n - m)) (hq0 : 0 < q) :
    ∃ w', (Builtin.copy_ #[dT, sT] ty #[.slice (some ⟨g, m, none⟩) (n - m) c1, .slice (some ⟨g, 0, none⟩) m c2]).run P w = .ok (goInt q) w' ∧ Row w' t g n cap (fun i => if i < m + q then x else y) ∧ Keep [g] w w' := by
  obtain ⟨c, hcg, e1, e2, e3, hf⟩ := hg
  have hq1 : q ≤ m := hq ▸ Nat.min_le_left _ _
  have hq2 : q ≤ n - m := hq ▸ Nat.min_le_right _ _
  have hlen : ((List.range q).map fun _ => x).length = q := by simp
  have hrow : Row w t g n cap (fun i => if i < m then x else y) := ⟨c, hcg, e1, e2, e3, hf⟩
  have hrun := run_copy_row (P := P) w dT sT ty elem g m (n - m) c1 ⟨g, 0, none⟩ m c2 c t ((List.range q).map fun _ => x) hu hsz hcg (hlen.trans hq) (by
    intro j v hv
    have hj : j < q := by
      have := (List.getElem?_eq_some_iff.1 hv).1
      simpa using this
    have hv' : x = v := by simpa [hj] using hv
    have hadd : (⟨g, 0, none⟩ : Addr).add j = ⟨g, j, none⟩ := by unfold Addr.add; split <;> simp_all
    rw [hadd, hrow.cell (by omega), if_pos (by omega), hv']) (by simp; omega) (by
    intro v hv
    simp only [List.mem_map, List.mem_range] at hv
    obtain ⟨j, hj, rfl⟩ := hv
    exact hx)
  rw [hlen] at hrun
  refine ⟨_, hrun, ⟨_, setRow_heap w g _ _ t _ hcg, ?_, e2, e3, fun i hi => ?_⟩, Keep.setRow w g (by simp) _⟩
  · simp; omega
  · have hsp := get_splice c.toList m ((List.range q).map fun _ => x) (by simp; omega) i
    unfold splice at hsp
    rw [hlen] at hsp
    rw [List.getElem?_toArray, List.append_assoc, hsp]
    by_cases hin : m ≤ i ∧ i < m + q
    · rw [if_pos hin]
      have h2 : i - m < q := by omega
      simp [h2, hin.2]
    · rw [if_neg hin]
      have := hf i hi
      dsimp only at this ⊢
      by_cases h1 : i < m
      · rw [if_pos h1] at this
        rw [if_pos (by omega)]
        simpa using this
      · rw [if_neg h1] at this
        rw [if_neg (by omega)]
        simpa using this

theorem i64size : (Tryd.prog.info? 3).map (·.size) = some 1 := by kernel_rfl

set_option maxHeartbeats 1000000 in
/-- A row of so many times the one number. -/
theorem repeat_any (n b c : Nat) (x : Int) (hn : n ≤ 65536) (w : World) (hx : w.cell? ⟨b, 0, none⟩ = some (.int .i64 x)) :
    Calls Tryd.prog 38 #[.slice (some ⟨b, 0, none⟩) 1 c, .int .i64 (n : Nat)] w fun e w' => e = .returned (.slice (some ⟨w.heap.size, 0, none⟩) n n) ∧ Row w' 3 w.heap.size n n (fun _ => .int .i64 x) ∧ Keep [] w w' := by
  have hmul := mul_one_any n hn w
  have e5 : IntKind.u64.wrap (n : Int) = (n : Int) := by rw [IntKind.wrap_u64]; omega
  have e6 : IntKind.i64.wrap (n : Int) = (n : Int) := by rw [IntKind.wrap_i64]; omega
  have e7 : IntKind.u64.wrap 1 = 1 := by decide
  have hmk := mk_ints n hn w
  have hrow := Row.made w 3 (.int .i64 0) rfl n (by unfold maxLen; omega)
  rw [Nat.mul_one, show (Value.int .i64 0).cells = #[Value.int .i64 0] from rfl] at hrow
  have ka : Keep [] w (w.alloc (.cells (madeCells #[Value.int .i64 0] n) 3)) := Keep.alloc _ _
  have hbz : b < w.heap.size := World.block_lt_of_cell? w _ hx
  go_enter Tryd.func38, Tryd.ntmps38
  go_wp2_with fail
  (with_reducible refine hmul.mono ?_)
  rintro e w2 ⟨rfl, rfl⟩
  clear hmul
  obtain ⟨w1, hw1⟩ : ∃ w1, w1 = w.alloc (.cells (madeCells #[Value.int .i64 0] n) 3) := ⟨_, rfl⟩
  rw [← hw1] at hmk hrow ka
  have hx1 := (ka.cell (p := ⟨b, 0, none⟩) hbz (by simp)).trans hx
  have hc : ∃ w2, (Builtin.copy_ #[23, 23] 3 #[.slice (some ⟨w.heap.size, 0, none⟩) n n, .slice (some ⟨b, 0, none⟩) 1 c]).run Tryd.prog w1 = .ok (goInt (Nat.min 1 n)) w2 ∧ Row w2 3 w.heap.size n n (fun i => if i < Nat.min 1 n then .int .i64 x else .int .i64 0) ∧ Keep [w.heap.size] w1 w2 := by
    by_cases h0 : n = 0
    · subst h0
      refine ⟨w1, ?_, hrow.congr (fun i hi => by omega), Keep.refl _ _⟩
      exact run_copy_none w1 23 23 3 3 _ _ _ _ _ _ Tryd.underlying23 i64size (by decide)
    · have hmin : Nat.min 1 n = 1 := Nat.min_eq_left (by omega)
      rw [hmin]
      have hrw := hrow
      obtain ⟨cc, hcg, e1, e2, e3, hf⟩ := hrow
      have hrun := run_copy_row (P := Tryd.prog) w1 23 23 3 3 w.heap.size 0 n n ⟨b, 0, none⟩ 1 c cc 3 [.int .i64 x] Tryd.underlying23 i64size hcg (by simp [hmin]) (by
        intro j v hv
        have hj : j = 0 := by
          have := (List.getElem?_eq_some_iff.1 hv).1
          simpa using this
        subst hj
        have hv' : Value.int .i64 x = v := by simpa using hv
        rw [← hv']
        exact hx1) (by simp; omega) (by
        intro v hv
        simp at hv
        subst hv
        rfl)
      refine ⟨_, hrun, ⟨_, setRow_heap w1 w.heap.size _ _ 3 _ hcg, ?_, e2, e3, fun i hi => ?_⟩, Keep.setRow w1 w.heap.size (by simp) _⟩
      · simp; omega
      · have hsp := get_splice cc.toList 0 [Value.int .i64 x] (by simp; omega) i
        unfold splice at hsp
        rw [List.getElem?_toArray, List.append_assoc, hsp]
        have := hf i hi
        dsimp only at this ⊢
        by_cases hin : i < 1
        · obtain rfl : i = 0 := by omega
          simp
        · rw [if_neg (by simp; omega), if_neg hin]
          simpa using this
  obtain ⟨w2, hcp, hrow2, hk2⟩ := hc
  have HR2 := Lib.hid (And.intro hrow2 (And.intro (ka.since hk2 (by simp)) hk2))
  have hmin : Nat.min 1 n ≤ n := Nat.min_le_right _ _
  have hmin1 : n = 0 ∨ Nat.min 1 n = 1 := by
    rcases Nat.eq_zero_or_pos n with h | h
    · exact Or.inl h
    · exact Or.inr (Nat.min_eq_left h)
  clear hrow2 hk2 hrow ka hx1 hx
  generalize Nat.min 1 n = m0 at *
  go_upto_region 7 with fail
  rw [← hw1]
  clear hw1 hmk
  go_upto_region 8 with fail
  go_loopw [8] (fun x' wr => ∃ m : Nat, m ≤ n ∧ (n = 0 ∨ 0 < m) ∧ x' = .int .i64 m ∧ Row wr 3 w.heap.size n n (fun i => if i < m then .int .i64 x else .int .i64 0) ∧ Keep [w.heap.size] w2 wr) (fun x' _ => n - (RowKit.intOf x').toNat)
  case atStart => exact ⟨m0, hmin, by omega, rfl, HR2.out.1, Keep.refl _ _⟩
  case round =>
  obtain ⟨m, hm, hm0, rfl, hrow, hK⟩ := hrel
  by_cases hlt : m < n
  case neg =>
    obtain rfl : m = n := by omega
    have HE := Lib.hid (And.intro hrow hK)
    clear hrow hK
    go_wp2
    go_ret
    exact ⟨rfl, HE.out.1.congr (fun i hi => by rw [if_pos hi]), HR2.out.2.1.since HE.out.2 (by simp)⟩
  obtain ⟨q, hq⟩ : ∃ q, q = Nat.min m (n - m) := ⟨_, rfl⟩
  have hq1 : q ≤ m := hq ▸ Nat.min_le_left _ _
  have hq2 : q ≤ n - m := hq ▸ Nat.min_le_right _ _
  have hq0 : 0 < q := by rw [hq]; exact Nat.lt_min.2 ⟨by omega, by omega⟩
  obtain ⟨w3, hcp3, hrow3, hk3⟩ := run_copy_on (w := wr.drew) 23 23 3 3 Tryd.underlying23 i64size w.heap.size n n m q 3 (.int .i64 x) (.int .i64 0) rfl hm (n - m) n (hrow.keep (Keep.drew (own := []) wr) (by simp)) hq hq0
  have HE := Lib.hid (And.intro hrow3 (hK.trans ((Keep.drew wr).trans hk3)))
  clear hrow hK hrow3 hk3 hq hcp
  go_wp2_with fail
  go_region
  go_wp2_with fail
  go_roundw
  case rel => exact ⟨m + q, by omega, Or.inr (by omega), by go_num, HE.out.1, HE.out.2⟩
  case measure => simp [RowKit.intOf]; omega
end Go.Proofs.YtigclopkoolocaaDoor
