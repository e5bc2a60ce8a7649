/-
  The program's package graph: Reach; what a value's kind gives a meaning; a node, renumbered; places. No conditions but what is in memory.
-/
import Derived.Test.YtigclopkoolocaaDoorGd4
namespace Go.Flo
open Go.RowKit Go.Bit

/-- The cells of values. -/
def valC (F : Nat → Val) (i : Nat) : Value :=
  if i % 5 = 0 then .int .i64 (F (i / 5)).K else if i % 5 = 1 then .int .i64 (F (i / 5)).n else if i % 5 = 2 then .int .u64 (F (i / 5)).p else if i % 5 = 3 then .int .u64 (F (i / 5)).q else .int .i64 (F (i / 5)).r
def zv12 : Array Value := #[.int .i64 0, .int .i64 0, .int .u64 0, .int .u64 0, .int .i64 0]
theorem valC_0 (F : Nat → Val) (j : Nat) : valC F (j * 5) = .int .i64 (F j).K := by unfold valC; rw [show j * 5 % 5 = 0 by omega, show j * 5 / 5 = j by omega]; rfl
theorem valC_1 (F : Nat → Val) (j : Nat) : valC F (j * 5 + 1) = .int .i64 (F j).n := by unfold valC; rw [show (j * 5 + 1) % 5 = 1 by omega, show (j * 5 + 1) / 5 = j by omega]; rfl
theorem valC_2 (F : Nat → Val) (j : Nat) : valC F (j * 5 + 2) = .int .u64 (F j).p := by unfold valC; rw [show (j * 5 + 2) % 5 = 2 by omega, show (j * 5 + 2) / 5 = j by omega]; rfl
theorem valC_3 (F : Nat → Val) (j : Nat) : valC F (j * 5 + 3) = .int .u64 (F j).q := by unfold valC; rw [show (j * 5 + 3) % 5 = 3 by omega, show (j * 5 + 3) / 5 = j by omega]; rfl
theorem valC_4 (F : Nat → Val) (j : Nat) : valC F (j * 5 + 4) = .int .i64 (F j).r := by unfold valC; rw [show (j * 5 + 4) % 5 = 4 by omega, show (j * 5 + 4) / 5 = j by omega]; rfl
theorem valC_congr {F F' : Nat → Val} {m : Nat} (h : ∀ i, i < m → F i = F' i) {i : Nat} (hi : i < m * 5) : valC F i = valC F' i := by unfold valC; rw [h (i / 5) (by omega)]

theorem row_vals {w : World} {t : TypeId} {b m : Nat} {F : Nat → Val} (h : Row w t b (m * 5) (m * 5) (valC F)) : Vals w (some ⟨b, 0, none⟩) m m F := by
  have hm := h.cap_max
  unfold maxLen at hm
  refine ⟨by omega, by omega, fun _ => ⟨b, 0, rfl, h.lt, fun i hi => ?_⟩⟩
  rw [Nat.zero_add]
  refine ⟨?_, ?_, ?_, ?_, ?_⟩
  · rw [h.cell (by omega), valC_0]
  · rw [h.cell (by omega), valC_1]
  · rw [h.cell (by omega), valC_2]
  · rw [h.cell (by omega), valC_3]
  · rw [h.cell (by omega), valC_4]

/-- Five cells set are a value set. -/
theorem row_set5 {w : World} {t : TypeId} {b m : Nat} {F F' : Nat → Val} (h : Row w t b (m * 5) (m * 5) (valC F)) (j : Nat) (x : Val) (hx : F' j = x) (ho : ∀ k, k ≠ j → F' k = F k) :
    Row (((((w.setCell ⟨b, j * 5, none⟩ (.int .i64 x.K)).setCell ⟨b, j * 5 + 1, none⟩ (.int .i64 x.n)).setCell ⟨b, j * 5 + 2, none⟩ (.int .u64 x.p)).setCell ⟨b, j * 5 + 3, none⟩ (.int .u64 x.q)).setCell ⟨b, j * 5 + 4, none⟩ (.int .i64 x.r)) t b (m * 5) (m * 5) (valC F') := by
  refine (((((h.set_ (j * 5) _).set_ (j * 5 + 1) _).set_ (j * 5 + 2) _).set_ (j * 5 + 3) _).set_ (j * 5 + 4) _).congr (fun i hi => ?_)
  by_cases e4 : i = j * 5 + 4
  · subst e4; rw [if_pos rfl, valC_4, hx]
  rw [if_neg e4]
  by_cases e3 : i = j * 5 + 3
  · subst e3; rw [if_pos rfl, valC_3, hx]
  rw [if_neg e3]
  by_cases e2 : i = j * 5 + 2
  · subst e2; rw [if_pos rfl, valC_2, hx]
  rw [if_neg e2]
  by_cases e1 : i = j * 5 + 1
  · subst e1; rw [if_pos rfl, valC_1, hx]
  rw [if_neg e1]
  by_cases e0 : i = j * 5
  · subst e0; rw [if_pos rfl, valC_0, hx]
  rw [if_neg e0]
  unfold valC
  rw [ho (i / 5) (by omega)]
end Go.Flo
namespace Go.Proofs.YtigclopkoolocaaDoor
open Go.RowKit Go.Flo Go.Bit
set_option maxRecDepth 100000

theorem valparts12 : (Tryd.prog.info? 36).map (fun i => (i.zero, i.size, i.bytes)) = some (some (.agg zv12), 5, 40) := by kernel_rfl

theorem mk_vals12 (n : Nat) (hn : n ≤ 65536) (W : World) : (Instr.makeSlice 31 (.int .i64 (n : Nat)) (.int .i64 (n : Nat))).run Tryd.prog W = .ok (.slice (some ⟨W.heap.size, 0, none⟩) n n) (W.alloc (.cells (madeCells zv12 (n * 5)) 36)) := by
  obtain ⟨i, hi, h1, h2, h3⟩ := info_of valparts12
  have := run_make (P := Tryd.prog) W 31 36 i (.agg zv12) Tryd.underlying31 hi h1 .i64 .i64 (n : Nat) (n : Nat) (by omega) (by omega) (by rw [h3]; omega) (by omega)
  rw [h2] at this
  simpa [Value.cells] using this

theorem zrow12 {W : World} {g n : Nat} (hn : n ≤ 65536) (h : Blk W g 36 (madeCells zv12 (n * 5))) : Row W 36 g (n * 5) (n * 5) (valC (fun _ => z0)) := by
  refine ⟨_, h, by rw [size_madeCells], Nat.le_refl _, by unfold maxLen; omega, fun i hi => ?_⟩
  have h5 : i % 5 < 5 := Nat.mod_lt _ (by omega)
  have e : (madeCells zv12 (n * 5))[i]? = some (zv12[i % 5]!) := by simp [madeCells, hi, show zv12.size = 5 from rfl]
  rw [e]
  unfold valC
  match hq : i % 5, h5 with
  | 0, _ => rfl
  | 1, _ => rfl
  | 2, _ => rfl
  | 3, _ => rfl
  | 4, _ => rfl

theorem meant1 (n p q r : Int) (w : World) : Calls Tryd.prog 41 #[.agg #[.int .i64 1, .int .i64 n, .int .u64 p, .int .u64 q, .int .i64 r]] w fun e w' => e = .returned (.agg #[.int .i64 1, .int .i64 n, .int .u64 0, .int .u64 0, .int .i64 0]) ∧ Keep [] w w' := by
  have e : (w.alloc (.cells #[.int .i64 1, .int .i64 n, .int .u64 p, .int .u64 q, .int .i64 r] 36)).heap.size = w.heap.size + 1 := by simp
  go_enter Tryd.func41, Tryd.ntmps41
  go_wp2
  (try simp only [Exit.inBlock, Exit.then])
  refine bodyPost_ret (v := .agg #[.int .i64 1, .int .i64 n, .int .u64 0, .int .u64 0, .int .i64 0]) (results_cell_row rfl _ _ (w.heap.size + 1) 36 #[.int .i64 1, .int .i64 n, .int .u64 0, .int .u64 0, .int .i64 0] (0, 0) _ rfl (heap_alloc2_new _ _ _) Tryd.underlying36 rfl kz) rfl ?_
  exact ⟨rfl, (Keep.alloc _ _).trans (Keep.alloc _ _)⟩

theorem meant2 (n p q r : Int) (w : World) : Calls Tryd.prog 41 #[.agg #[.int .i64 2, .int .i64 n, .int .u64 p, .int .u64 q, .int .i64 r]] w fun e w' => e = .returned (.agg #[.int .i64 2, .int .i64 0, .int .u64 p, .int .u64 q, .int .i64 0]) ∧ Keep [] w w' := by
  have e : (w.alloc (.cells #[.int .i64 2, .int .i64 n, .int .u64 p, .int .u64 q, .int .i64 r] 36)).heap.size = w.heap.size + 1 := by simp
  go_enter Tryd.func41, Tryd.ntmps41
  go_wp2
  (try simp only [Exit.inBlock, Exit.then])
  refine bodyPost_ret (v := .agg #[.int .i64 2, .int .i64 0, .int .u64 p, .int .u64 q, .int .i64 0]) (results_cell_row rfl _ _ (w.heap.size + 1) 36 #[.int .i64 2, .int .i64 0, .int .u64 p, .int .u64 q, .int .i64 0] (0, 0) _ rfl (heap_alloc2_new _ _ _) Tryd.underlying36 rfl kz) rfl ?_
  exact ⟨rfl, (Keep.alloc _ _).trans (Keep.alloc _ _)⟩

theorem meant3 (n p q r : Int) (w : World) : Calls Tryd.prog 41 #[.agg #[.int .i64 3, .int .i64 n, .int .u64 p, .int .u64 q, .int .i64 r]] w fun e w' => e = .returned (.agg #[.int .i64 3, .int .i64 0, .int .u64 0, .int .u64 0, .int .i64 r]) ∧ Keep [] w w' := by
  have e : (w.alloc (.cells #[.int .i64 3, .int .i64 n, .int .u64 p, .int .u64 q, .int .i64 r] 36)).heap.size = w.heap.size + 1 := by simp
  go_enter Tryd.func41, Tryd.ntmps41
  go_wp2
  (try simp only [Exit.inBlock, Exit.then])
  refine bodyPost_ret (v := .agg #[.int .i64 3, .int .i64 0, .int .u64 0, .int .u64 0, .int .i64 r]) (results_cell_row rfl _ _ (w.heap.size + 1) 36 #[.int .i64 3, .int .i64 0, .int .u64 0, .int .u64 0, .int .i64 r] (0, 0) _ rfl (heap_alloc2_new _ _ _) Tryd.underlying36 rfl kz) rfl ?_
  exact ⟨rfl, (Keep.alloc _ _).trans (Keep.alloc _ _)⟩

theorem meant0 (n p q r : Int) (w : World) : Calls Tryd.prog 41 #[.agg #[.int .i64 0, .int .i64 n, .int .u64 p, .int .u64 q, .int .i64 r]] w fun e w' => e = .returned (.agg #[.int .i64 0, .int .i64 0, .int .u64 0, .int .u64 0, .int .i64 0]) ∧ Keep [] w w' := by
  have e : (w.alloc (.cells #[.int .i64 0, .int .i64 n, .int .u64 p, .int .u64 q, .int .i64 r] 36)).heap.size = w.heap.size + 1 := by simp
  go_enter Tryd.func41, Tryd.ntmps41
  go_wp2
  (try simp only [Exit.inBlock, Exit.then])
  refine bodyPost_ret (v := .agg #[.int .i64 0, .int .i64 0, .int .u64 0, .int .u64 0, .int .i64 0]) (results_cell_row rfl _ _ (w.heap.size + 1) 36 #[.int .i64 0, .int .i64 0, .int .u64 0, .int .u64 0, .int .i64 0] (0, 0) _ rfl (heap_alloc2_new _ _ _) Tryd.underlying36 rfl kz) rfl ?_
  exact ⟨rfl, (Keep.alloc _ _).trans (Keep.alloc _ _)⟩

theorem meant_v (K n p q r : Int) (h0 : 0 ≤ K) (h3 : K ≤ 3) (w : World) : Calls Tryd.prog 41 #[.agg #[.int .i64 K, .int .i64 n, .int .u64 p, .int .u64 q, .int .i64 r]] w fun e w' => e = .returned (.agg #[.int .i64 (plainV ⟨K, n, p, q, r⟩).K, .int .i64 (plainV ⟨K, n, p, q, r⟩).n, .int .u64 (plainV ⟨K, n, p, q, r⟩).p, .int .u64 (plainV ⟨K, n, p, q, r⟩).q, .int .i64 (plainV ⟨K, n, p, q, r⟩).r]) ∧ Keep [] w w' := by
  unfold plainV
  by_cases h1 : K = 1
  · subst h1; exact meant1 n p q r w
  by_cases h2 : K = 2
  · subst h2; exact meant2 n p q r w
  by_cases h4 : K = 3
  · subst h4; exact meant3 n p q r w
  obtain rfl : K = 0 := by omega
  rw [if_neg h1, if_neg h2, if_neg h4]
  exact meant0 n p q r w

end Go.Proofs.YtigclopkoolocaaDoor
