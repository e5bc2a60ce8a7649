/-
  Package value: Of; the document's twin's ValueOf: what each returns. Conditions: what is in memory.
-/
import Derived.Test.YtbmnhngkmokklaaOv2
namespace Go.Proofs.Ytbmnhngkmokklaa
open Go.RowKit Go.Flo
set_option maxRecDepth 100000

theorem _root_.Go.Flo.Keep.cellV {w w2 : World} {G i : Nat} {u : Value} (hk : Keep [] w w2) (hG : w.heap.size ≤ G) : Keep [] w (w2.setCell ⟨G, i, none⟩ u) :=
  ⟨hk.os, hk.tape, hk.output, Nat.le_trans hk.size (by simp [World.setCell]), fun k hlt _ => (Below.heap_setCell w2 ⟨G, i, none⟩ u k (by simp; omega)).trans (hk.block k hlt (by simp))⟩

theorem orw_any (x : Int) (h0 : 0 ≤ x) (h1 : x < 18446744073709551616) (w : World) : Calls Try.prog 56 #[.int .u64 x] w (OPost (ofV 3 [x]) w) := by
  have ka : Keep [] w (w.alloc (.cells #[.int .i64 0, .int .i64 0, .int .u64 0, .int .u64 0, .int .i64 0] 26)) := Keep.alloc _ _
  have hB := Blk.new w 26 #[.int .i64 0, .int .i64 0, .int .u64 0, .int .u64 0, .int .i64 0]
  unfold ofV
  by_cases hx : x = 0
  · subst hx
    have hN := fun W => vnil_any W
    go_enter Try.func56, Try.ntmps56
    go_wp2_with fail
    (with_reducible refine (hN _).mono ?_)
    rintro e w2 ⟨rfl, k2⟩
    clear hN
    have hZ := hB.keep k2 (by simp)
    go_wp2_with (refine wpList_store_row rfl 26 (.tmp 2) (.tmp 7) rfl w.heap.size #[.int .i64 0, .int .i64 0, .int .u64 0, .int .u64 0, .int .i64 0] rfl rfl 26 #[.int .i64 0, .int .i64 0, .int .u64 0, .int .u64 0, .int .i64 0] hZ kz rfl (h1c ..) ?_)
    (try simp only [Exit.inBlock, Exit.then])
    refine bodyPost_ret (v := .tuple #[.agg #[.int .i64 0, .int .i64 0, .int .u64 0, .int .u64 0, .int .i64 0], .bool true]) (results_cell_tmpV rfl _ _ w.heap.size 26 #[.int .i64 0, .int .i64 0, .int .u64 0, .int .u64 0, .int .i64 0] (0, 0) _ _ rfl rfl (setRow_heap _ _ _ _ _ _ hZ) Try.underlying26 rfl kz) rfl ?_
    exact ⟨rfl, (ka.trans k2).setV (Nat.le_refl _)⟩
  by_cases hy : x ≤ 1099511627777
  · have e : OPost (some ⟨3, 0, 0, 0, x - 1⟩) w = OPost (if (3 : Int) = 1 then some ⟨1, wrap64 x, 0, 0, 0⟩ else if (3 : Int) = 3 then (if x = 0 then some z0 else if x ≤ 1099511627777 then some ⟨3, 0, 0, 0, x - 1⟩ else none) else none) w := by rw [if_neg (by omega), if_pos rfl, if_neg hx, if_pos hy]
    refine e ▸ ?_
    clear e
    have hm : IntKind.u64.wrap (x - 1) = x - 1 := wrap_of (by omega) (by omega)
    have hw : wrap64 (x - 1) = x - 1 := wrap64_of (by omega) (by omega)
    have hI := fun W => toInt_any (x - 1) W
    rw [hw] at hI
    have hR := fun W => vref_any (x - 1) W
    go_enter Try.func56, Try.ntmps56
    go_wp2_with fail
    (with_reducible refine (hI _).mono ?_)
    rintro e w2 ⟨rfl, rfl⟩
    go_wp2_with fail
    (with_reducible refine (hR _).mono ?_)
    rintro e w2 ⟨rfl, k2⟩
    clear hI hR
    have hZ := hB.keep k2 (by simp)
    go_wp2_with (refine wpList_store_row rfl 26 (.tmp 2) (.tmp 14) rfl w.heap.size #[.int .i64 3, .int .i64 0, .int .u64 0, .int .u64 0, .int .i64 (x - 1)] rfl rfl 26 #[.int .i64 0, .int .i64 0, .int .u64 0, .int .u64 0, .int .i64 0] hZ kz rfl (h1c ..) ?_)
    (try simp only [Exit.inBlock, Exit.then])
    refine bodyPost_ret (v := .tuple #[.agg #[.int .i64 3, .int .i64 0, .int .u64 0, .int .u64 0, .int .i64 (x - 1)], .bool true]) (results_cell_tmpV rfl _ _ w.heap.size 26 #[.int .i64 3, .int .i64 0, .int .u64 0, .int .u64 0, .int .i64 (x - 1)] (0, 0) _ _ rfl rfl (setRow_heap _ _ _ _ _ _ hZ) Try.underlying26 rfl kz) rfl ?_
    exact ⟨rfl, (ka.trans k2).setV (Nat.le_refl _)⟩
  · have e : OPost none w = OPost (if (3 : Int) = 1 then some ⟨1, wrap64 x, 0, 0, 0⟩ else if (3 : Int) = 3 then (if x = 0 then some z0 else if x ≤ 1099511627777 then some ⟨3, 0, 0, 0, x - 1⟩ else none) else none) w := by rw [if_neg (by omega), if_pos rfl, if_neg hx, if_neg hy]
    refine e ▸ ?_
    clear e
    go_enter Try.func56, Try.ntmps56
    go_wp2
    (try simp only [Exit.inBlock, Exit.then])
    refine bodyPost_ret (v := .tuple #[.agg #[.int .i64 0, .int .i64 0, .int .u64 0, .int .u64 0, .int .i64 0], .bool false]) (results_cell_tmpV rfl _ _ w.heap.size 26 #[.int .i64 0, .int .i64 0, .int .u64 0, .int .u64 0, .int .i64 0] (0, 0) _ _ rfl rfl (heap_alloc_new _ _) Try.underlying26 rfl kz) rfl ?_
    exact ⟨rfl, ka⟩

theorem vof_int (x : Int) (b o c : Nat) (hc : 1 ≤ c) (hcm : c ≤ 9223372036854775807) (w : World) (hb : b < w.heap.size) (h : w.cell? ⟨b, o, none⟩ = some (.int .u64 x)) :
    Calls Try.prog 42 #[.int .i64 1, .slice (some ⟨b, o, none⟩) 1 c] w (OPost (some ⟨1, wrap64 x, 0, 0, 0⟩) w) := by
  have ka : Keep [] w (w.alloc (.cells #[.int .i64 0, .int .i64 0, .int .u64 0, .int .u64 0, .int .i64 0] 26)) := Keep.alloc _ _
  have hB := Blk.new w 26 #[.int .i64 0, .int .i64 0, .int .u64 0, .int .u64 0, .int .i64 0]
  have hI := fun W => toInt_any x W
  have hV := fun W => vint_any (wrap64 x) W
  go_enter Try.func42, Try.ntmps42
  go_wp2_with fail
  (with_reducible refine (hI _).mono ?_)
  rintro e w2 ⟨rfl, rfl⟩
  go_wp2_with fail
  (with_reducible refine (hV _).mono ?_)
  rintro e w2 ⟨rfl, k2⟩
  clear hI hV
  have hZ := hB.keep k2 (by simp)
  go_wp2_with (refine wpList_store_row rfl 26 (.tmp 4) (.tmp 18) rfl w.heap.size #[.int .i64 1, .int .i64 (wrap64 x), .int .u64 0, .int .u64 0, .int .i64 0] rfl rfl 26 #[.int .i64 0, .int .i64 0, .int .u64 0, .int .u64 0, .int .i64 0] hZ kz rfl (h1c ..) ?_)
  (try simp only [Exit.inBlock, Exit.then])
  refine bodyPost_ret (v := .tuple #[.agg #[.int .i64 1, .int .i64 (wrap64 x), .int .u64 0, .int .u64 0, .int .i64 0], .bool true]) (results_cell_tmpV rfl _ _ w.heap.size 26 #[.int .i64 1, .int .i64 (wrap64 x), .int .u64 0, .int .u64 0, .int .i64 0] (0, 0) _ _ rfl rfl (setRow_heap _ _ _ _ _ _ hZ) Try.underlying26 rfl kz) rfl ?_
  exact ⟨rfl, (ka.trans k2).setV (Nat.le_refl _)⟩

set_option maxHeartbeats 4000000 in
theorem vof_cplx (x y : Int) (b o c : Nat) (hc : 2 ≤ c) (hcm : c ≤ 9223372036854775807) (w : World) (hb : b < w.heap.size) (h : w.cell? ⟨b, o, none⟩ = some (.int .u64 x)) (h' : w.cell? ⟨b, o + 1, none⟩ = some (.int .u64 y)) :
    Calls Try.prog 42 #[.int .i64 2, .slice (some ⟨b, o, none⟩) 2 c] w (OPost (some ⟨2, 0, x, y, 0⟩) w) := by
  have ka : Keep [] w (w.alloc (.cells #[.int .i64 0, .int .i64 0, .int .u64 0, .int .u64 0, .int .i64 0] 26)) := Keep.alloc _ _
  have hB := Blk.new w 26 #[.int .i64 0, .int .i64 0, .int .u64 0, .int .u64 0, .int .i64 0]
  have hV := fun W => vparts_any x y W
  go_enter Try.func42, Try.ntmps42
  go_wp2
  go_region_with (go_at_call 55; refine (hV _).mono ?_; rintro e w2 ⟨rfl, k2⟩; have hK := Keep.trans ka (Keep.trans (by repeat (first | (with_reducible exact Keep.refl _ _) | (with_reducible refine Keep.trans ?_ (Keep.drew _)))) k2); have hZ := hB.keep (Keep.trans (by repeat (first | (with_reducible exact Keep.refl _ _) | (with_reducible refine Keep.trans ?_ (Keep.drew _)))) k2) (by simp); have y0 := (hZ.cell 0).trans (show _ = some (Value.int .i64 0) from rfl); have y1 := (hZ.cell 1).trans (show _ = some (Value.int .i64 0) from rfl); have y2 := (hZ.cell 2).trans (show _ = some (Value.int .u64 0) from rfl); have y3 := (hZ.cell 3).trans (show _ = some (Value.int .u64 0) from rfl); have y4 := (hZ.cell 4).trans (show _ = some (Value.int .i64 0) from rfl); have f0 := hZ.frozen 0; have f1 := hZ.frozen 1; have f2 := hZ.frozen 2; have f3 := hZ.frozen 3; have f4 := hZ.frozen 4)
  all_goals
    go_wp2
    have hE := (((((hZ.set_ 0 (.int .i64 2)).set_ 1 (.int .i64 0)).set_ 2 (.int .u64 x)).set_ 3 (.int .u64 y)).set_ 4 (.int .i64 0))
    (try simp only [Exit.inBlock, Exit.then])
    refine bodyPost_ret (v := .tuple #[.agg #[.int .i64 2, .int .i64 0, .int .u64 x, .int .u64 y, .int .i64 0], .bool true]) (results_cell_tmpV rfl _ _ w.heap.size 26 #[.int .i64 2, .int .i64 0, .int .u64 x, .int .u64 y, .int .i64 0] (0, 0) _ _ rfl rfl hE Try.underlying26 rfl kz) rfl ?_
    exact ⟨rfl, ((((hK.cellV (Nat.le_refl _)).cellV (Nat.le_refl _)).cellV (Nat.le_refl _)).cellV (Nat.le_refl _)).cellV (Nat.le_refl _)⟩

theorem rvof_int (x : Int) (b o c : Nat) (hc : 1 ≤ c) (hcm : c ≤ 9223372036854775807) (w : World) (hb : b < w.heap.size) (h : w.cell? ⟨b, o, none⟩ = some (.int .u64 x)) :
    Calls Try.prog 31 #[.int .i64 1, .slice (some ⟨b, o, none⟩) 1 c] w (OPost (some ⟨1, wrap64 x, 0, 0, 0⟩) w) := by
  have ka : Keep [] w (w.alloc (.cells #[.int .i64 0, .int .i64 0, .int .u64 0, .int .u64 0, .int .i64 0] 26)) := Keep.alloc _ _
  go_enter Try.func31, Try.ntmps31
  go_wp2
  (try simp only [Exit.inBlock, Exit.then])
  refine bodyPost_ret (v := .tuple #[.agg #[.int .i64 1, .int .i64 (wrap64 x), .int .u64 0, .int .u64 0, .int .i64 0], .bool true]) (results_cell_tmpV rfl _ _ w.heap.size 26 #[.int .i64 1, .int .i64 (wrap64 x), .int .u64 0, .int .u64 0, .int .i64 0] (0, 0) _ _ rfl rfl (heap_alloc_new _ _) Try.underlying26 rfl kz) rfl ?_
  exact ⟨rfl, Keep.alloc _ _⟩

set_option maxHeartbeats 4000000 in
theorem rvof_cplx (x y : Int) (b o c : Nat) (hc : 2 ≤ c) (hcm : c ≤ 9223372036854775807) (w : World) (hb : b < w.heap.size) (h : w.cell? ⟨b, o, none⟩ = some (.int .u64 x)) (h' : w.cell? ⟨b, o + 1, none⟩ = some (.int .u64 y)) :
    Calls Try.prog 31 #[.int .i64 2, .slice (some ⟨b, o, none⟩) 2 c] w (OPost (some ⟨2, 0, x, y, 0⟩) w) := by
  have ka : Keep [] w (w.alloc (.cells #[.int .i64 0, .int .i64 0, .int .u64 0, .int .u64 0, .int .i64 0] 26)) := Keep.alloc _ _
  go_enter Try.func31, Try.ntmps31
  go_wp2
  go_region
  all_goals
    go_wp2
    (try simp only [Exit.inBlock, Exit.then])
    refine bodyPost_ret (v := .tuple #[.agg #[.int .i64 2, .int .i64 0, .int .u64 x, .int .u64 y, .int .i64 0], .bool true]) (results_cell_tmpV rfl _ _ w.heap.size 26 #[.int .i64 2, .int .i64 0, .int .u64 x, .int .u64 y, .int .i64 0] (0, 0) _ _ rfl rfl (heap_alloc_new _ _) Try.underlying26 rfl kz) rfl ?_
    exact ⟨rfl, (by repeat (first | exact Keep.alloc _ _ | (with_reducible refine Keep.trans ?_ (Keep.drew _))))⟩

set_option maxHeartbeats 1000000 in
theorem vof_ref (x : Int) (h0 : 0 ≤ x) (h1 : x < 18446744073709551616) (b o c : Nat) (hc : 1 ≤ c) (hcm : c ≤ 9223372036854775807) (w : World) (hb : b < w.heap.size) (h : w.cell? ⟨b, o, none⟩ = some (.int .u64 x)) :
    Calls Try.prog 42 #[.int .i64 3, .slice (some ⟨b, o, none⟩) 1 c] w (OPost (ofV 3 [x]) w) := by
  have ka : Keep [] w (w.alloc (.cells #[.int .i64 0, .int .i64 0, .int .u64 0, .int .u64 0, .int .i64 0] 26)) := Keep.alloc _ _
  have hB := Blk.new w 26 #[.int .i64 0, .int .i64 0, .int .u64 0, .int .u64 0, .int .i64 0]
  have hV := fun W => orw_any x h0 h1 W
  unfold OPost at hV ⊢
  generalize (ofV 3 [x]).isSome = i1 at *
  generalize (ofV 3 [x]).getD z0 = V at *
  obtain ⟨K, n, p, q, r⟩ := V
  dsimp only at hV ⊢
  go_enter Try.func42, Try.ntmps42
  go_wp2_with fail
  (with_reducible refine (hV _).mono ?_)
  rintro e w2 ⟨rfl, k2⟩
  clear hV
  have hZ := hB.keep k2 (by simp)
  go_wp2_with (refine wpList_store_row rfl 26 (.tmp 4) (.tmp 46) rfl w.heap.size #[.int .i64 K, .int .i64 n, .int .u64 p, .int .u64 q, .int .i64 r] rfl rfl 26 #[.int .i64 0, .int .i64 0, .int .u64 0, .int .u64 0, .int .i64 0] hZ kz rfl (h1c ..) ?_)
  (try simp only [Exit.inBlock, Exit.then])
  refine bodyPost_ret (v := .tuple #[.agg #[.int .i64 K, .int .i64 n, .int .u64 p, .int .u64 q, .int .i64 r], .bool i1]) (results_cell_tmpV rfl _ _ w.heap.size 26 #[.int .i64 K, .int .i64 n, .int .u64 p, .int .u64 q, .int .i64 r] (0, 0) _ _ rfl rfl (setRow_heap _ _ _ _ _ _ hZ) Try.underlying26 rfl kz) rfl ?_
  exact ⟨rfl, (ka.trans k2).setV (Nat.le_refl _)⟩

/-- A number of words that is none of this kind's. -/
theorem vof_no (kind : Int) (A : Option Addr) (k c : Nat) (hk : k ≤ c) (hcm : c ≤ 9223372036854775807) (h1 : kind = 1 → k ≠ 1) (h2 : kind = 2 → k ≠ 2) (h3 : kind = 3 → k ≠ 1) (w : World) :
    Calls Try.prog 42 #[.int .i64 kind, .slice A k c] w (OPost none w) := by
  by_cases e1 : kind = 1
  · have hn := h1 e1
    subst e1
    clear h1 h2 h3
    go_enter Try.func42, Try.ntmps42
    go_wp2
    (try simp only [Exit.inBlock, Exit.then])
    refine bodyPost_ret (v := .tuple #[.agg #[.int .i64 0, .int .i64 0, .int .u64 0, .int .u64 0, .int .i64 0], .bool false]) (results_cell_tmpV rfl _ _ w.heap.size 26 #[.int .i64 0, .int .i64 0, .int .u64 0, .int .u64 0, .int .i64 0] (0, 0) _ _ rfl rfl (heap_alloc_new _ _) Try.underlying26 rfl kz) rfl ?_
    exact ⟨rfl, Keep.alloc _ _⟩
  by_cases e2 : kind = 2
  · have hn := h2 e2
    subst e2
    clear h1 h2 h3
    go_enter Try.func42, Try.ntmps42
    go_wp2
    (try simp only [Exit.inBlock, Exit.then])
    refine bodyPost_ret (v := .tuple #[.agg #[.int .i64 0, .int .i64 0, .int .u64 0, .int .u64 0, .int .i64 0], .bool false]) (results_cell_tmpV rfl _ _ w.heap.size 26 #[.int .i64 0, .int .i64 0, .int .u64 0, .int .u64 0, .int .i64 0] (0, 0) _ _ rfl rfl (heap_alloc_new _ _) Try.underlying26 rfl kz) rfl ?_
    exact ⟨rfl, Keep.alloc _ _⟩
  by_cases e3 : kind = 3
  · have hn := h3 e3
    subst e3
    clear h1 h2 h3
    go_enter Try.func42, Try.ntmps42
    go_wp2
    (try simp only [Exit.inBlock, Exit.then])
    refine bodyPost_ret (v := .tuple #[.agg #[.int .i64 0, .int .i64 0, .int .u64 0, .int .u64 0, .int .i64 0], .bool false]) (results_cell_tmpV rfl _ _ w.heap.size 26 #[.int .i64 0, .int .i64 0, .int .u64 0, .int .u64 0, .int .i64 0] (0, 0) _ _ rfl rfl (heap_alloc_new _ _) Try.underlying26 rfl kz) rfl ?_
    exact ⟨rfl, Keep.alloc _ _⟩
  · clear h1 h2 h3
    go_enter Try.func42, Try.ntmps42
    go_wp2
    (try simp only [Exit.inBlock, Exit.then])
    refine bodyPost_ret (v := .tuple #[.agg #[.int .i64 0, .int .i64 0, .int .u64 0, .int .u64 0, .int .i64 0], .bool false]) (results_cell_tmpV rfl _ _ w.heap.size 26 #[.int .i64 0, .int .i64 0, .int .u64 0, .int .u64 0, .int .i64 0] (0, 0) _ _ rfl rfl (heap_alloc_new _ _) Try.underlying26 rfl kz) rfl ?_
    exact ⟨rfl, Keep.alloc _ _⟩

theorem vof_any (kind : Int) (A : Option Addr) (c : Nat) (l : List Int) (hl : ∀ x ∈ l, 0 ≤ x ∧ x < 18446744073709551616) (hk : l.length ≤ c) (hcm : c ≤ 9223372036854775807) (w : World) (hA : Wd w A l) :
    Calls Try.prog 42 #[.int .i64 kind, .slice A l.length c] w (OPost (ofV kind l) w) := by
  match l, hl, hk, hA with
  | [], _, hk, _ => exact vof_no kind A 0 c hk hcm (by omega) (by omega) (by omega) w
  | [x], hl, hk, hA =>
    obtain ⟨b, o, rfl, hb, hc⟩ := hA.cells (by simp)
    have c0 := hc 0 (by simp)
    by_cases e1 : kind = 1
    · subst e1
      exact vof_int x b o c hk hcm w hb c0
    by_cases e3 : kind = 3
    · subst e3
      have hx := hl x (by simp)
      exact vof_ref x hx.1 hx.2 b o c hk hcm w hb c0
    · have e : ofV kind [x] = none := by rw [ofV_one, if_neg e1, if_neg e3]
      rw [e]
      exact vof_no kind _ 1 c hk hcm (fun h => absurd h e1) (by omega) (fun h => absurd h e3) w
  | [x, y], hl, hk, hA =>
    obtain ⟨b, o, rfl, hb, hc⟩ := hA.cells (by simp)
    have c0 := hc 0 (by simp)
    have c1 := hc 1 (by simp)
    by_cases e2 : kind = 2
    · subst e2
      exact vof_cplx x y b o c hk hcm w hb c0 c1
    · have e : ofV kind [x, y] = none := by rw [ofV_two, if_neg e2]
      rw [e]
      exact vof_no kind _ 2 c hk hcm (by omega) (fun h => absurd h e2) (by omega) w
  | x :: y :: z :: r, hl, hk, hA =>
    have hlen : (x :: y :: z :: r).length = r.length + 3 := by simp
    have e : ofV kind (x :: y :: z :: r) = none := rfl
    rw [e, hlen]
    exact vof_no kind _ (r.length + 3) c (by rw [← hlen]; exact hk) hcm (by omega) (by omega) (by omega) w

set_option maxHeartbeats 1000000 in
theorem rvof_ref (x : Int) (h0 : 0 ≤ x) (h1 : x < 18446744073709551616) (b o c : Nat) (hc : 1 ≤ c) (hcm : c ≤ 9223372036854775807) (w : World) (hb : b < w.heap.size) (h : w.cell? ⟨b, o, none⟩ = some (.int .u64 x)) :
    Calls Try.prog 31 #[.int .i64 3, .slice (some ⟨b, o, none⟩) 1 c] w (OPost (ofV 3 [x]) w) := by
  have e : ofV 3 [x] = if x = 0 then some z0 else if x ≤ 1099511627777 then some ⟨3, 0, 0, 0, x - 1⟩ else none := by rw [ofV_one, if_neg (by decide), if_pos rfl]
  rw [e]
  clear e
  by_cases hx : x = 0
  · rw [if_pos hx]
    subst hx
    go_enter Try.func31, Try.ntmps31
    go_wp2
    (try simp only [Exit.inBlock, Exit.then])
    refine bodyPost_ret (v := .tuple #[.agg #[.int .i64 0, .int .i64 0, .int .u64 0, .int .u64 0, .int .i64 0], .bool true]) (results_cell_tmpV rfl _ _ w.heap.size 26 #[.int .i64 0, .int .i64 0, .int .u64 0, .int .u64 0, .int .i64 0] (0, 0) _ _ rfl rfl (heap_alloc_new _ _) Try.underlying26 rfl kz) rfl ?_
    exact ⟨rfl, Keep.alloc _ _⟩
  rw [if_neg hx]
  by_cases hy : x ≤ 1099511627777
  · rw [if_pos hy]
    have hm : IntKind.u64.wrap (x - 1) = x - 1 := wrap_of (by omega) (by omega)
    have hw : wrap64 (x - 1) = x - 1 := wrap64_of (by omega) (by omega)
    go_enter Try.func31, Try.ntmps31
    go_wp2
    (try simp only [Exit.inBlock, Exit.then])
    refine bodyPost_ret (v := .tuple #[.agg #[.int .i64 3, .int .i64 0, .int .u64 0, .int .u64 0, .int .i64 (x - 1)], .bool true]) (results_cell_tmpV rfl _ _ w.heap.size 26 #[.int .i64 3, .int .i64 0, .int .u64 0, .int .u64 0, .int .i64 (x - 1)] (0, 0) _ _ rfl rfl (heap_alloc_new _ _) Try.underlying26 rfl kz) rfl ?_
    exact ⟨rfl, Keep.alloc _ _⟩
  · rw [if_neg hy]
    go_enter Try.func31, Try.ntmps31
    go_wp2
    (try simp only [Exit.inBlock, Exit.then])
    refine bodyPost_ret (v := .tuple #[.agg #[.int .i64 0, .int .i64 0, .int .u64 0, .int .u64 0, .int .i64 0], .bool false]) (results_cell_tmpV rfl _ _ w.heap.size 26 #[.int .i64 0, .int .i64 0, .int .u64 0, .int .u64 0, .int .i64 0] (0, 0) _ _ rfl rfl (heap_alloc_new _ _) Try.underlying26 rfl kz) rfl ?_
    exact ⟨rfl, Keep.alloc _ _⟩

/-- A number of words that is none of this kind's. -/
theorem rvof_no (kind : Int) (A : Option Addr) (k c : Nat) (hk : k ≤ c) (hcm : c ≤ 9223372036854775807) (h1 : kind = 1 → k ≠ 1) (h2 : kind = 2 → k ≠ 2) (h3 : kind = 3 → k ≠ 1) (w : World) :
    Calls Try.prog 31 #[.int .i64 kind, .slice A k c] w (OPost none w) := by
  by_cases e1 : kind = 1
  · have hn := h1 e1
    subst e1
    clear h1 h2 h3
    go_enter Try.func31, Try.ntmps31
    go_wp2
    (try simp only [Exit.inBlock, Exit.then])
    refine bodyPost_ret (v := .tuple #[.agg #[.int .i64 0, .int .i64 0, .int .u64 0, .int .u64 0, .int .i64 0], .bool false]) (results_cell_tmpV rfl _ _ w.heap.size 26 #[.int .i64 0, .int .i64 0, .int .u64 0, .int .u64 0, .int .i64 0] (0, 0) _ _ rfl rfl (heap_alloc_new _ _) Try.underlying26 rfl kz) rfl ?_
    exact ⟨rfl, Keep.alloc _ _⟩
  by_cases e2 : kind = 2
  · have hn := h2 e2
    subst e2
    clear h1 h2 h3
    go_enter Try.func31, Try.ntmps31
    go_wp2
    (try simp only [Exit.inBlock, Exit.then])
    refine bodyPost_ret (v := .tuple #[.agg #[.int .i64 0, .int .i64 0, .int .u64 0, .int .u64 0, .int .i64 0], .bool false]) (results_cell_tmpV rfl _ _ w.heap.size 26 #[.int .i64 0, .int .i64 0, .int .u64 0, .int .u64 0, .int .i64 0] (0, 0) _ _ rfl rfl (heap_alloc_new _ _) Try.underlying26 rfl kz) rfl ?_
    exact ⟨rfl, Keep.alloc _ _⟩
  by_cases e3 : kind = 3
  · have hn := h3 e3
    subst e3
    clear h1 h2 h3
    go_enter Try.func31, Try.ntmps31
    go_wp2
    (try simp only [Exit.inBlock, Exit.then])
    refine bodyPost_ret (v := .tuple #[.agg #[.int .i64 0, .int .i64 0, .int .u64 0, .int .u64 0, .int .i64 0], .bool false]) (results_cell_tmpV rfl _ _ w.heap.size 26 #[.int .i64 0, .int .i64 0, .int .u64 0, .int .u64 0, .int .i64 0] (0, 0) _ _ rfl rfl (heap_alloc_new _ _) Try.underlying26 rfl kz) rfl ?_
    exact ⟨rfl, Keep.alloc _ _⟩
  · clear h1 h2 h3
    go_enter Try.func31, Try.ntmps31
    go_wp2
    (try simp only [Exit.inBlock, Exit.then])
    refine bodyPost_ret (v := .tuple #[.agg #[.int .i64 0, .int .i64 0, .int .u64 0, .int .u64 0, .int .i64 0], .bool false]) (results_cell_tmpV rfl _ _ w.heap.size 26 #[.int .i64 0, .int .i64 0, .int .u64 0, .int .u64 0, .int .i64 0] (0, 0) _ _ rfl rfl (heap_alloc_new _ _) Try.underlying26 rfl kz) rfl ?_
    exact ⟨rfl, Keep.alloc _ _⟩

theorem rvof_any (kind : Int) (A : Option Addr) (c : Nat) (l : List Int) (hl : ∀ x ∈ l, 0 ≤ x ∧ x < 18446744073709551616) (hk : l.length ≤ c) (hcm : c ≤ 9223372036854775807) (w : World) (hA : Wd w A l) :
    Calls Try.prog 31 #[.int .i64 kind, .slice A l.length c] w (OPost (ofV kind l) w) := by
  match l, hl, hk, hA with
  | [], _, hk, _ => exact rvof_no kind A 0 c hk hcm (by omega) (by omega) (by omega) w
  | [x], hl, hk, hA =>
    obtain ⟨b, o, rfl, hb, hc⟩ := hA.cells (by simp)
    have c0 := hc 0 (by simp)
    by_cases e1 : kind = 1
    · subst e1
      exact rvof_int x b o c hk hcm w hb c0
    by_cases e3 : kind = 3
    · subst e3
      have hx := hl x (by simp)
      exact rvof_ref x hx.1 hx.2 b o c hk hcm w hb c0
    · have e : ofV kind [x] = none := by rw [ofV_one, if_neg e1, if_neg e3]
      rw [e]
      exact rvof_no kind _ 1 c hk hcm (fun h => absurd h e1) (by omega) (fun h => absurd h e3) w
  | [x, y], hl, hk, hA =>
    obtain ⟨b, o, rfl, hb, hc⟩ := hA.cells (by simp)
    have c0 := hc 0 (by simp)
    have c1 := hc 1 (by simp)
    by_cases e2 : kind = 2
    · subst e2
      exact rvof_cplx x y b o c hk hcm w hb c0 c1
    · have e : ofV kind [x, y] = none := by rw [ofV_two, if_neg e2]
      rw [e]
      exact rvof_no kind _ 2 c hk hcm (by omega) (fun h => absurd h e2) (by omega) w
  | x :: y :: z :: r, hl, hk, hA =>
    have hlen : (x :: y :: z :: r).length = r.length + 3 := by simp
    have e : ofV kind (x :: y :: z :: r) = none := rfl
    rw [e, hlen]
    exact rvof_no kind _ (r.length + 3) c (by rw [← hlen]; exact hk) hcm (by omega) (by omega) (by omega) w
end Go.Proofs.Ytbmnhngkmokklaa
