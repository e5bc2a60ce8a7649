/-
  Package value: its makers, Num, Same; the document's twin's SameValue and Plain: what each returns. No conditions but each theorem's own.
-/
import Derived.Test.YtigclopkoolocaaDoorRows
import Derived.Test.YtigclopkoolocaaDoorMem
import Derived.Test.YtigclopkoolocaaDoorWord
import Derived.Laws.Rows
import Derived.Laws.Tables
namespace Go.Flo
open Go.RowKit

/-- A value. -/
structure Val where
  K : Int
  n : Int
  p : Int
  q : Int
  r : Int

/-- Are two values the same, as far as their kind gives a meaning? -/
def sameV (a b : Val) : Bool :=
  if a.K ≠ b.K then false else if a.K = 0 then true else if a.K = 1 then a.n == b.n else if a.K = 2 then (a.p == b.p) && (a.q == b.q) else if a.K = 3 then a.r == b.r else false

def z0 : Val := ⟨0, 0, 0, 0, 0⟩

/-- What a cell and a slot return. -/
theorem results_cell_tmpV {P : Program} {fn : Func} {p q : Tmp} {ty : TypeId} (h : fn.results = #[.cell p ty, .tmp q]) (tmps : Array Value) (w : World) (g : Nat) (t : TypeId) (cs : Array Value) (fr : Nat × Nat) (d : TypeDesc) (v : Value)
    (hp : tmps.getD p undef = .pointer (some ⟨g, 0, none⟩)) (hq : tmps.getD q undef = v) (hg : w.heap[g]? = some (.cells cs t fr))
    (hu : P.underlying ty = some d) (hd : (match d with | .struct _ | .array _ _ => true | _ => false) = true) (hi : (P.info? ty).map (·.size) = some cs.size) :
    (results fn tmps).run P w = .ok (.tuple #[.agg cs, v]) w := by
  have hp' : tmps[p]?.getD undef = .pointer (some ⟨g, 0, none⟩) := by simpa using hp
  have hq' : tmps[q]?.getD undef = v := by simpa using hq
  simp [results, h, hp', hq', asAddr, run_loadVar_row w g t ty cs fr d hg hu hd hi]

theorem Keep.setV {w w2 : World} {G : Nat} {cs : Array Value} (hk : Keep [] w w2) (hG : w.heap.size ≤ G) : Keep [] w (w2.setRow G cs) :=
  ⟨hk.os, hk.tape, hk.output, Nat.le_trans hk.size (by simp [World.setRow]), fun k hlt _ => (setRow_other w2 G k cs (by omega)).trans (hk.block k hlt (by simp))⟩
end Go.Flo
namespace Go.Proofs.YtigclopkoolocaaDoor
open Go.RowKit Go.Flo
set_option maxRecDepth 100000

theorem kz : (Tryd.prog.info? 36).map (·.size) = some 5 := by kernel_rfl

theorem h1c (K n p q r : Int) : (#[.int .i64 K, .int .i64 n, .int .u64 p, .int .u64 q, .int .i64 r] : Array Value).all (·.oneCell') = true := by first | kernel_rfl | simp [Value.oneCell']

theorem rvsame_any (K n p q r K' n' p' q' r' : Int) (w : World) : Calls Tryd.prog 37 #[.agg #[.int .i64 K, .int .i64 n, .int .u64 p, .int .u64 q, .int .i64 r], .agg #[.int .i64 K', .int .i64 n', .int .u64 p', .int .u64 q', .int .i64 r']] w fun e w' => e = .returned (.bool (sameV ⟨K, n, p, q, r⟩ ⟨K', n', p', q', r'⟩)) ∧ Keep [] w w' := by
  generalize hb : sameV ⟨K, n, p, q, r⟩ ⟨K', n', p', q', r'⟩ = b
  unfold sameV at hb
  by_cases h : K = K'
  case neg =>
    rw [if_pos h] at hb
    subst hb
    go_enter Tryd.func37, Tryd.ntmps37
    go_wp2
    go_ret
    exact ⟨rfl, (Keep.alloc _ _).trans (Keep.alloc _ _)⟩
  subst h
  rw [if_neg (by simp)] at hb
  by_cases h0 : K = 0
  · rw [if_pos h0] at hb
    subst hb h0
    go_enter Tryd.func37, Tryd.ntmps37
    go_wp2
    go_ret
    exact ⟨rfl, (Keep.alloc _ _).trans (Keep.alloc _ _)⟩
  rw [if_neg h0] at hb
  by_cases h1 : K = 1
  · rw [if_pos h1] at hb
    subst hb h1
    go_enter Tryd.func37, Tryd.ntmps37
    go_wp2
    go_ret
    exact ⟨rfl, (Keep.alloc _ _).trans (Keep.alloc _ _)⟩
  rw [if_neg h1] at hb
  by_cases h2 : K = 2
  · rw [if_pos h2] at hb
    subst h2
    by_cases hp : (p == p') = true
    · rw [hp, Bool.true_and] at hb
      subst hb
      go_enter Tryd.func37, Tryd.ntmps37
      go_wp2
      go_ret
      exact ⟨rfl, (Keep.alloc _ _).trans (Keep.alloc _ _)⟩
    · rw [Bool.not_eq_true] at hp
      rw [hp, Bool.false_and] at hb
      subst hb
      go_enter Tryd.func37, Tryd.ntmps37
      go_wp2
      go_ret
      exact ⟨rfl, (Keep.alloc _ _).trans (Keep.alloc _ _)⟩
  rw [if_neg h2] at hb
  by_cases h3 : K = 3
  · rw [if_pos h3] at hb
    subst hb h3
    go_enter Tryd.func37, Tryd.ntmps37
    go_wp2
    go_ret
    exact ⟨rfl, (Keep.alloc _ _).trans (Keep.alloc _ _)⟩
  · rw [if_neg h3] at hb
    subst hb
    go_enter Tryd.func37, Tryd.ntmps37
    go_wp2
    go_ret
    exact ⟨rfl, (Keep.alloc _ _).trans (Keep.alloc _ _)⟩

/-- As far as its kind gives a meaning. -/
def plainV (v : Val) : Val := if v.K = 1 then ⟨1, v.n, 0, 0, 0⟩ else if v.K = 2 then ⟨2, 0, v.p, v.q, 0⟩ else if v.K = 3 then ⟨3, 0, 0, 0, v.r⟩ else ⟨v.K, 0, 0, 0, 0⟩

theorem rplain1 (n p q r : Int) (w : World) : Calls Tryd.prog 16 #[.agg #[.int .i64 1, .int .i64 n, .int .u64 p, .int .u64 q, .int .i64 r]] w fun e w' => e = .returned (.agg #[.int .i64 1, .int .i64 n, .int .u64 0, .int .u64 0, .int .i64 0]) ∧ Keep [] w w' := by
  have e : (w.alloc (.cells #[.int .i64 1, .int .i64 n, .int .u64 p, .int .u64 q, .int .i64 r] 36)).heap.size = w.heap.size + 1 := by simp
  go_enter Tryd.func16, Tryd.ntmps16
  go_wp2
  (try simp only [Exit.inBlock, Exit.then])
  refine bodyPost_ret (v := .agg #[.int .i64 1, .int .i64 n, .int .u64 0, .int .u64 0, .int .i64 0]) (results_cell_row rfl _ _ (w.heap.size + 1) 36 #[.int .i64 1, .int .i64 n, .int .u64 0, .int .u64 0, .int .i64 0] (0, 0) _ rfl (heap_alloc2_new _ _ _) Tryd.underlying36 rfl kz) rfl ?_
  exact ⟨rfl, (Keep.alloc _ _).trans (Keep.alloc _ _)⟩

theorem rplain2 (n p q r : Int) (w : World) : Calls Tryd.prog 16 #[.agg #[.int .i64 2, .int .i64 n, .int .u64 p, .int .u64 q, .int .i64 r]] w fun e w' => e = .returned (.agg #[.int .i64 2, .int .i64 0, .int .u64 p, .int .u64 q, .int .i64 0]) ∧ Keep [] w w' := by
  have e : (w.alloc (.cells #[.int .i64 2, .int .i64 n, .int .u64 p, .int .u64 q, .int .i64 r] 36)).heap.size = w.heap.size + 1 := by simp
  go_enter Tryd.func16, Tryd.ntmps16
  go_wp2
  (try simp only [Exit.inBlock, Exit.then])
  refine bodyPost_ret (v := .agg #[.int .i64 2, .int .i64 0, .int .u64 p, .int .u64 q, .int .i64 0]) (results_cell_row rfl _ _ (w.heap.size + 1) 36 #[.int .i64 2, .int .i64 0, .int .u64 p, .int .u64 q, .int .i64 0] (0, 0) _ rfl (heap_alloc2_new _ _ _) Tryd.underlying36 rfl kz) rfl ?_
  exact ⟨rfl, (Keep.alloc _ _).trans (Keep.alloc _ _)⟩

theorem rplain3 (n p q r : Int) (w : World) : Calls Tryd.prog 16 #[.agg #[.int .i64 3, .int .i64 n, .int .u64 p, .int .u64 q, .int .i64 r]] w fun e w' => e = .returned (.agg #[.int .i64 3, .int .i64 0, .int .u64 0, .int .u64 0, .int .i64 r]) ∧ Keep [] w w' := by
  have e : (w.alloc (.cells #[.int .i64 3, .int .i64 n, .int .u64 p, .int .u64 q, .int .i64 r] 36)).heap.size = w.heap.size + 1 := by simp
  go_enter Tryd.func16, Tryd.ntmps16
  go_wp2
  (try simp only [Exit.inBlock, Exit.then])
  refine bodyPost_ret (v := .agg #[.int .i64 3, .int .i64 0, .int .u64 0, .int .u64 0, .int .i64 r]) (results_cell_row rfl _ _ (w.heap.size + 1) 36 #[.int .i64 3, .int .i64 0, .int .u64 0, .int .u64 0, .int .i64 r] (0, 0) _ rfl (heap_alloc2_new _ _ _) Tryd.underlying36 rfl kz) rfl ?_
  exact ⟨rfl, (Keep.alloc _ _).trans (Keep.alloc _ _)⟩

theorem rplainx (K : Int) (h1 : ¬ K = 1) (h2 : ¬ K = 2) (h3 : ¬ K = 3) (n p q r : Int) (w : World) : Calls Tryd.prog 16 #[.agg #[.int .i64 K, .int .i64 n, .int .u64 p, .int .u64 q, .int .i64 r]] w fun e w' => e = .returned (.agg #[.int .i64 K, .int .i64 0, .int .u64 0, .int .u64 0, .int .i64 0]) ∧ Keep [] w w' := by
  have e : (w.alloc (.cells #[.int .i64 K, .int .i64 n, .int .u64 p, .int .u64 q, .int .i64 r] 36)).heap.size = w.heap.size + 1 := by simp
  go_enter Tryd.func16, Tryd.ntmps16
  go_wp2
  (try simp only [Exit.inBlock, Exit.then])
  refine bodyPost_ret (v := .agg #[.int .i64 K, .int .i64 0, .int .u64 0, .int .u64 0, .int .i64 0]) (results_cell_row rfl _ _ (w.heap.size + 1) 36 #[.int .i64 K, .int .i64 0, .int .u64 0, .int .u64 0, .int .i64 0] (0, 0) _ rfl (heap_alloc2_new _ _ _) Tryd.underlying36 rfl kz) rfl ?_
  exact ⟨rfl, (Keep.alloc _ _).trans (Keep.alloc _ _)⟩

end Go.Proofs.YtigclopkoolocaaDoor
