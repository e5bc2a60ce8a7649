/-
  Package value: Words, Of; the document's twin's ValueWords, ValueOf; scullionref1.SameWords: what each returns. Conditions: what is in memory.
-/
import Derived.Test.YtbmnhngkmokklaaOv1
import Derived.BigRegion
namespace Go.Flo
open Go.RowKit

/-- A slice of words in memory. -/
structure Wd (w : World) (A : Option Addr) (l : List Int) : Prop where
  len : l.length ≤ 9223372036854775807
  cells : 0 < l.length → ∃ b o, A = some ⟨b, o, none⟩ ∧ b < w.heap.size ∧ ∀ j, j < l.length → w.cell? ⟨b, o + j, none⟩ = some (.int .u64 (l.getD j 0))

theorem Wd.keep {w w' : World} {A : Option Addr} {l : List Int} (h : Wd w A l) (hk : Keep [] w w') : Wd w' A l :=
  ⟨h.len, fun h0 => by
    obtain ⟨b, o, h1, h3, h4⟩ := h.cells h0
    exact ⟨b, o, h1, Nat.lt_of_lt_of_le h3 hk.size, fun j hj => (hk.cell (p := ⟨b, _, none⟩) h3 (by simp)).trans (h4 j hj)⟩⟩

theorem Wd.nil (w : World) (A : Option Addr) : Wd w A [] := ⟨by simp, fun h => by simp at h⟩

theorem Wd.blk {w : World} {g : Nat} {t : TypeId} {cs : Array Value} {l : List Int} (h : Blk w g t cs) (hl : l.length ≤ 2) (he : ∀ j, j < l.length → cs[j]? = some (.int .u64 (l.getD j 0))) : Wd w (some ⟨g, 0, none⟩) l :=
  ⟨by omega, fun _ => ⟨g, 0, rfl, h.lt, fun j hj => by rw [Nat.zero_add, h.cell]; exact he j hj⟩⟩

/-- The words of a field. -/
def wordsV (kind : Int) (v : Val) : Option (List Int) :=
  if kind = 1 ∧ v.K = 1 then some [IntKind.u64.wrap v.n] else if kind = 2 ∧ v.K = 2 then some [v.p, v.q] else if kind = 3 ∧ v.K = 0 then some [0]
  else if kind = 3 ∧ v.K = 3 ∧ 0 ≤ v.r ∧ v.r ≤ 1099511627776 then some [v.r + 1] else none

def WPost (o : Option (List Int)) (w : World) (e : Ending) (w' : World) : Prop :=
  ∃ A, e = .returned (.tuple #[.slice A (o.getD []).length (o.getD []).length, .bool o.isSome]) ∧ Wd w' A (o.getD []) ∧ Keep [] w w'

/-- A field's words as a value. -/
def ofV (kind : Int) (l : List Int) : Option Val :=
  match l with
  | [x] => if kind = 1 then some ⟨1, wrap64 x, 0, 0, 0⟩ else if kind = 3 then (if x = 0 then some z0 else if x ≤ 1099511627777 then some ⟨3, 0, 0, 0, x - 1⟩ else none) else none
  | [x, y] => if kind = 2 then some ⟨2, 0, x, y, 0⟩ else none
  | _ => none

theorem ofV_one (kind x : Int) : ofV kind [x] = if kind = 1 then some ⟨1, wrap64 x, 0, 0, 0⟩ else if kind = 3 then (if x = 0 then some z0 else if x ≤ 1099511627777 then some ⟨3, 0, 0, 0, x - 1⟩ else none) else none := rfl
theorem ofV_two (kind x y : Int) : ofV kind [x, y] = if kind = 2 then some ⟨2, 0, x, y, 0⟩ else none := rfl

def OPost (o : Option Val) (w : World) (e : Ending) (w' : World) : Prop :=
  e = .returned (.tuple #[.agg #[.int .i64 (o.getD z0).K, .int .i64 (o.getD z0).n, .int .u64 (o.getD z0).p, .int .u64 (o.getD z0).q, .int .i64 (o.getD z0).r], .bool o.isSome]) ∧ Keep [] w w'
end Go.Flo
namespace Go.Proofs.Ytbmnhngkmokklaa
open Go.RowKit Go.Flo
set_option maxRecDepth 100000

theorem wrap_of {x : Int} (h0 : 0 ≤ x) (h1 : x < 18446744073709551616) : IntKind.u64.wrap x = x := by
  simp [IntKind.wrap, IntKind.bits, IntKind.signed]
  omega
theorem wrap64_of {x : Int} (h0 : -9223372036854775808 ≤ x) (h1 : x < 9223372036854775808) : wrap64 x = x := by unfold wrap64; omega

theorem vwords_int (n p q r : Int) (w : World) : Calls Try.prog 35 #[.int .i64 1, .agg #[.int .i64 1, .int .i64 n, .int .u64 p, .int .u64 q, .int .i64 r]] w (WPost (some [IntKind.u64.wrap n]) w) := by
  have ka : Keep [] w (w.alloc (.cells #[.int .i64 1, .int .i64 n, .int .u64 p, .int .u64 q, .int .i64 r] 26)) := Keep.alloc _ _
  have kb : Keep [] (w.alloc (.cells #[.int .i64 1, .int .i64 n, .int .u64 p, .int .u64 q, .int .i64 r] 26)) ((w.alloc (.cells #[.int .i64 1, .int .i64 n, .int .u64 p, .int .u64 q, .int .i64 r] 26)).alloc (.cells #[.int .u64 (IntKind.u64.wrap n)] 24)) := Keep.alloc _ _
  have hB := Blk.new (w.alloc (.cells #[.int .i64 1, .int .i64 n, .int .u64 p, .int .u64 q, .int .i64 r] 26)) 24 #[.int .u64 (IntKind.u64.wrap n)]
  rw [show (w.alloc (.cells #[.int .i64 1, .int .i64 n, .int .u64 p, .int .u64 q, .int .i64 r] 26)).heap.size = w.heap.size + 1 by simp] at hB
  have hW : Wd _ _ [IntKind.u64.wrap n] := Wd.blk hB (by simp) (fun j hj => by match j, hj with | 0, _ => rfl)
  have HH := Lib.hid (And.intro hW (ka.trans kb))
  clear hB hW ka kb
  have hI := fun W => int_any n W
  go_enter Try.func35, Try.ntmps35
  go_wp2_with (go_at_call 48; refine (hI _).mono ?_; rintro e w1 ⟨rfl, rfl⟩)
  go_ret2
  exact ⟨_, rfl, HH.out.1, HH.out.2⟩

theorem vwords_cplx (n p q r : Int) (w : World) : Calls Try.prog 35 #[.int .i64 2, .agg #[.int .i64 2, .int .i64 n, .int .u64 p, .int .u64 q, .int .i64 r]] w (WPost (some [p, q]) w) := by
  have ka : Keep [] w (w.alloc (.cells #[.int .i64 2, .int .i64 n, .int .u64 p, .int .u64 q, .int .i64 r] 26)) := Keep.alloc _ _
  have kb : Keep [] (w.alloc (.cells #[.int .i64 2, .int .i64 n, .int .u64 p, .int .u64 q, .int .i64 r] 26)) ((w.alloc (.cells #[.int .i64 2, .int .i64 n, .int .u64 p, .int .u64 q, .int .i64 r] 26)).alloc (.cells #[.int .u64 p, .int .u64 q] 24)) := Keep.alloc _ _
  have hB := Blk.new (w.alloc (.cells #[.int .i64 2, .int .i64 n, .int .u64 p, .int .u64 q, .int .i64 r] 26)) 24 #[.int .u64 p, .int .u64 q]
  rw [show (w.alloc (.cells #[.int .i64 2, .int .i64 n, .int .u64 p, .int .u64 q, .int .i64 r] 26)).heap.size = w.heap.size + 1 by simp] at hB
  have hW : Wd _ _ [p, q] := Wd.blk hB (by simp) (fun j hj => by match j, hj with | 0, _ => rfl | 1, _ => rfl)
  have HH := Lib.hid (And.intro hW (ka.trans kb))
  clear hB hW ka kb
  go_enter Try.func35, Try.ntmps35
  go_wp2
  go_ret2
  exact ⟨_, rfl, HH.out.1, HH.out.2⟩

theorem vwords_nil (n p q r : Int) (w : World) : Calls Try.prog 35 #[.int .i64 3, .agg #[.int .i64 0, .int .i64 n, .int .u64 p, .int .u64 q, .int .i64 r]] w (WPost (some [0]) w) := by
  have ka : Keep [] w (w.alloc (.cells #[.int .i64 0, .int .i64 n, .int .u64 p, .int .u64 q, .int .i64 r] 26)) := Keep.alloc _ _
  have kb : Keep [] (w.alloc (.cells #[.int .i64 0, .int .i64 n, .int .u64 p, .int .u64 q, .int .i64 r] 26)) ((w.alloc (.cells #[.int .i64 0, .int .i64 n, .int .u64 p, .int .u64 q, .int .i64 r] 26)).alloc (.cells #[.int .u64 0] 24)) := Keep.alloc _ _
  have hB := Blk.new (w.alloc (.cells #[.int .i64 0, .int .i64 n, .int .u64 p, .int .u64 q, .int .i64 r] 26)) 24 #[.int .u64 0]
  rw [show (w.alloc (.cells #[.int .i64 0, .int .i64 n, .int .u64 p, .int .u64 q, .int .i64 r] 26)).heap.size = w.heap.size + 1 by simp] at hB
  have hW : Wd _ _ [0] := Wd.blk hB (by simp) (fun j hj => by match j, hj with | 0, _ => rfl)
  have HH := Lib.hid (And.intro hW (ka.trans kb))
  clear hB hW ka kb
  go_enter Try.func35, Try.ntmps35
  go_wp2
  go_ret2
  exact ⟨_, rfl, HH.out.1, HH.out.2⟩

theorem vwords_ref (n p q r : Int) (h0 : 0 ≤ r) (h1 : r ≤ 1099511627776) (w : World) : Calls Try.prog 35 #[.int .i64 3, .agg #[.int .i64 3, .int .i64 n, .int .u64 p, .int .u64 q, .int .i64 r]] w (WPost (some [r + 1]) w) := by
  have ka : Keep [] w (w.alloc (.cells #[.int .i64 3, .int .i64 n, .int .u64 p, .int .u64 q, .int .i64 r] 26)) := Keep.alloc _ _
  have kb : Keep [] (w.alloc (.cells #[.int .i64 3, .int .i64 n, .int .u64 p, .int .u64 q, .int .i64 r] 26)) ((w.alloc (.cells #[.int .i64 3, .int .i64 n, .int .u64 p, .int .u64 q, .int .i64 r] 26)).alloc (.cells #[.int .u64 (r + 1)] 24)) := Keep.alloc _ _
  have hB := Blk.new (w.alloc (.cells #[.int .i64 3, .int .i64 n, .int .u64 p, .int .u64 q, .int .i64 r] 26)) 24 #[.int .u64 (r + 1)]
  rw [show (w.alloc (.cells #[.int .i64 3, .int .i64 n, .int .u64 p, .int .u64 q, .int .i64 r] 26)).heap.size = w.heap.size + 1 by simp] at hB
  have hW : Wd _ _ [r + 1] := Wd.blk hB (by simp) (fun j hj => by match j, hj with | 0, _ => rfl)
  have HH := Lib.hid (And.intro hW (ka.trans kb))
  clear hB hW ka kb
  have hw : IntKind.u64.wrap r = r := wrap_of h0 (by omega)
  have hI := fun W => int_any r W
  go_enter Try.func35, Try.ntmps35
  go_wp2_with (go_at_call 48; refine (hI _).mono ?_; rintro e w1 ⟨rfl, rfl⟩)
  go_ret2
  exact ⟨_, rfl, HH.out.1, HH.out.2⟩

theorem vwords_no (kind K n p q r : Int) (h : wordsV kind ⟨K, n, p, q, r⟩ = none) (w : World) : Calls Try.prog 35 #[.int .i64 kind, .agg #[.int .i64 K, .int .i64 n, .int .u64 p, .int .u64 q, .int .i64 r]] w (WPost none w) := by
  have ka : Keep [] w (w.alloc (.cells #[.int .i64 K, .int .i64 n, .int .u64 p, .int .u64 q, .int .i64 r] 26)) := Keep.alloc _ _
  unfold wordsV at h
  dsimp only at h
  have fin : ∀ W, Keep [] w W → WPost none w (.returned (.tuple #[.slice none 0 0, .bool false])) W := fun W hk => ⟨none, rfl, Wd.nil _ _, hk⟩
  by_cases h1 : kind = 1
  · have hK : ¬ K = 1 := by intro e; rw [if_pos ⟨h1, e⟩] at h; cases h
    subst h1
    clear h
    go_enter Try.func35, Try.ntmps35
    go_wp2
    go_ret2
    exact fin _ ka
  by_cases h2 : kind = 2
  · have hK : ¬ K = 2 := by intro e; rw [if_neg (by omega), if_pos ⟨h2, e⟩] at h; cases h
    subst h2
    clear h h1
    go_enter Try.func35, Try.ntmps35
    go_wp2
    go_ret2
    exact fin _ ka
  by_cases h3 : kind = 3
  · have hK : ¬ K = 0 := by intro e; rw [if_neg (by omega), if_neg (by omega), if_pos ⟨h3, e⟩] at h; cases h
    have hR : ¬ (K = 3 ∧ 0 ≤ r ∧ r ≤ 1099511627776) := by intro e; rw [if_neg (by omega), if_neg (by omega), if_neg (by omega), if_pos ⟨h3, e⟩] at h; cases h
    subst h3
    clear h h1 h2
    by_cases hK3 : K = 3
    · subst hK3
      by_cases hr : 0 ≤ r
      · have hr2 : ¬ r ≤ 1099511627776 := by omega
        clear hR
        go_enter Try.func35, Try.ntmps35
        go_wp2
        go_ret2
        exact fin _ ka
      · clear hR
        go_enter Try.func35, Try.ntmps35
        go_wp2
        go_ret2
        exact fin _ ka
    · clear hR
      go_enter Try.func35, Try.ntmps35
      go_wp2
      go_ret2
      exact fin _ ka
  clear h
  go_enter Try.func35, Try.ntmps35
  go_wp2
  go_ret2
  exact fin _ ka

theorem vwords_any (kind K n p q r : Int) (w : World) : Calls Try.prog 35 #[.int .i64 kind, .agg #[.int .i64 K, .int .i64 n, .int .u64 p, .int .u64 q, .int .i64 r]] w (WPost (wordsV kind ⟨K, n, p, q, r⟩) w) := by
  cases ho : wordsV kind ⟨K, n, p, q, r⟩ with
  | none => exact vwords_no kind K n p q r ho w
  | some l =>
    unfold wordsV at ho
    dsimp only at ho
    split at ho
    · rename_i h; obtain ⟨rfl, rfl⟩ := h; injection ho with ho; subst ho; exact vwords_int n p q r w
    split at ho
    · rename_i h; obtain ⟨rfl, rfl⟩ := h; injection ho with ho; subst ho; exact vwords_cplx n p q r w
    split at ho
    · rename_i h; obtain ⟨rfl, rfl⟩ := h; injection ho with ho; subst ho; exact vwords_nil n p q r w
    split at ho
    · rename_i h; obtain ⟨rfl, rfl, h0, h1⟩ := h; injection ho with ho; subst ho; exact vwords_ref n p q r h0 h1 w
    · cases ho

theorem rvwords_int (n p q r : Int) (w : World) : Calls Try.prog 24 #[.int .i64 1, .agg #[.int .i64 1, .int .i64 n, .int .u64 p, .int .u64 q, .int .i64 r]] w (WPost (some [IntKind.u64.wrap n]) w) := by
  have ka : Keep [] w (w.alloc (.cells #[.int .i64 1, .int .i64 n, .int .u64 p, .int .u64 q, .int .i64 r] 26)) := Keep.alloc _ _
  have kb : Keep [] (w.alloc (.cells #[.int .i64 1, .int .i64 n, .int .u64 p, .int .u64 q, .int .i64 r] 26)) ((w.alloc (.cells #[.int .i64 1, .int .i64 n, .int .u64 p, .int .u64 q, .int .i64 r] 26)).alloc (.cells #[.int .u64 (IntKind.u64.wrap n)] 24)) := Keep.alloc _ _
  have hB := Blk.new (w.alloc (.cells #[.int .i64 1, .int .i64 n, .int .u64 p, .int .u64 q, .int .i64 r] 26)) 24 #[.int .u64 (IntKind.u64.wrap n)]
  rw [show (w.alloc (.cells #[.int .i64 1, .int .i64 n, .int .u64 p, .int .u64 q, .int .i64 r] 26)).heap.size = w.heap.size + 1 by simp] at hB
  have hW : Wd _ _ [IntKind.u64.wrap n] := Wd.blk hB (by simp) (fun j hj => by match j, hj with | 0, _ => rfl)
  have HH := Lib.hid (And.intro hW (ka.trans kb))
  clear hB hW ka kb
  go_enter Try.func24, Try.ntmps24
  go_wp2
  go_ret2
  exact ⟨_, rfl, HH.out.1, HH.out.2⟩

theorem rvwords_cplx (n p q r : Int) (w : World) : Calls Try.prog 24 #[.int .i64 2, .agg #[.int .i64 2, .int .i64 n, .int .u64 p, .int .u64 q, .int .i64 r]] w (WPost (some [p, q]) w) := by
  have ka : Keep [] w (w.alloc (.cells #[.int .i64 2, .int .i64 n, .int .u64 p, .int .u64 q, .int .i64 r] 26)) := Keep.alloc _ _
  have kb : Keep [] (w.alloc (.cells #[.int .i64 2, .int .i64 n, .int .u64 p, .int .u64 q, .int .i64 r] 26)) ((w.alloc (.cells #[.int .i64 2, .int .i64 n, .int .u64 p, .int .u64 q, .int .i64 r] 26)).alloc (.cells #[.int .u64 p, .int .u64 q] 24)) := Keep.alloc _ _
  have hB := Blk.new (w.alloc (.cells #[.int .i64 2, .int .i64 n, .int .u64 p, .int .u64 q, .int .i64 r] 26)) 24 #[.int .u64 p, .int .u64 q]
  rw [show (w.alloc (.cells #[.int .i64 2, .int .i64 n, .int .u64 p, .int .u64 q, .int .i64 r] 26)).heap.size = w.heap.size + 1 by simp] at hB
  have hW : Wd _ _ [p, q] := Wd.blk hB (by simp) (fun j hj => by match j, hj with | 0, _ => rfl | 1, _ => rfl)
  have HH := Lib.hid (And.intro hW (ka.trans kb))
  clear hB hW ka kb
  go_enter Try.func24, Try.ntmps24
  go_wp2
  go_ret2
  exact ⟨_, rfl, HH.out.1, HH.out.2⟩

theorem rvwords_nil (n p q r : Int) (w : World) : Calls Try.prog 24 #[.int .i64 3, .agg #[.int .i64 0, .int .i64 n, .int .u64 p, .int .u64 q, .int .i64 r]] w (WPost (some [0]) w) := by
  have ka : Keep [] w (w.alloc (.cells #[.int .i64 0, .int .i64 n, .int .u64 p, .int .u64 q, .int .i64 r] 26)) := Keep.alloc _ _
  have kb : Keep [] (w.alloc (.cells #[.int .i64 0, .int .i64 n, .int .u64 p, .int .u64 q, .int .i64 r] 26)) ((w.alloc (.cells #[.int .i64 0, .int .i64 n, .int .u64 p, .int .u64 q, .int .i64 r] 26)).alloc (.cells #[.int .u64 0] 24)) := Keep.alloc _ _
  have hB := Blk.new (w.alloc (.cells #[.int .i64 0, .int .i64 n, .int .u64 p, .int .u64 q, .int .i64 r] 26)) 24 #[.int .u64 0]
  rw [show (w.alloc (.cells #[.int .i64 0, .int .i64 n, .int .u64 p, .int .u64 q, .int .i64 r] 26)).heap.size = w.heap.size + 1 by simp] at hB
  have hW : Wd _ _ [0] := Wd.blk hB (by simp) (fun j hj => by match j, hj with | 0, _ => rfl)
  have HH := Lib.hid (And.intro hW (ka.trans kb))
  clear hB hW ka kb
  go_enter Try.func24, Try.ntmps24
  go_wp2
  go_ret2
  exact ⟨_, rfl, HH.out.1, HH.out.2⟩

theorem rvwords_ref (n p q r : Int) (h0 : 0 ≤ r) (h1 : r ≤ 1099511627776) (w : World) : Calls Try.prog 24 #[.int .i64 3, .agg #[.int .i64 3, .int .i64 n, .int .u64 p, .int .u64 q, .int .i64 r]] w (WPost (some [r + 1]) w) := by
  have ka : Keep [] w (w.alloc (.cells #[.int .i64 3, .int .i64 n, .int .u64 p, .int .u64 q, .int .i64 r] 26)) := Keep.alloc _ _
  have kb : Keep [] (w.alloc (.cells #[.int .i64 3, .int .i64 n, .int .u64 p, .int .u64 q, .int .i64 r] 26)) ((w.alloc (.cells #[.int .i64 3, .int .i64 n, .int .u64 p, .int .u64 q, .int .i64 r] 26)).alloc (.cells #[.int .u64 (r + 1)] 24)) := Keep.alloc _ _
  have hB := Blk.new (w.alloc (.cells #[.int .i64 3, .int .i64 n, .int .u64 p, .int .u64 q, .int .i64 r] 26)) 24 #[.int .u64 (r + 1)]
  rw [show (w.alloc (.cells #[.int .i64 3, .int .i64 n, .int .u64 p, .int .u64 q, .int .i64 r] 26)).heap.size = w.heap.size + 1 by simp] at hB
  have hW : Wd _ _ [r + 1] := Wd.blk hB (by simp) (fun j hj => by match j, hj with | 0, _ => rfl)
  have HH := Lib.hid (And.intro hW (ka.trans kb))
  clear hB hW ka kb
  have hw : IntKind.u64.wrap r = r := wrap_of h0 (by omega)
  go_enter Try.func24, Try.ntmps24
  go_wp2
  go_ret2
  exact ⟨_, rfl, HH.out.1, HH.out.2⟩

theorem rvwords_no (kind K n p q r : Int) (h : wordsV kind ⟨K, n, p, q, r⟩ = none) (w : World) : Calls Try.prog 24 #[.int .i64 kind, .agg #[.int .i64 K, .int .i64 n, .int .u64 p, .int .u64 q, .int .i64 r]] w (WPost none w) := by
  have ka : Keep [] w (w.alloc (.cells #[.int .i64 K, .int .i64 n, .int .u64 p, .int .u64 q, .int .i64 r] 26)) := Keep.alloc _ _
  unfold wordsV at h
  dsimp only at h
  have fin : ∀ W, Keep [] w W → WPost none w (.returned (.tuple #[.slice none 0 0, .bool false])) W := fun W hk => ⟨none, rfl, Wd.nil _ _, hk⟩
  by_cases h1 : kind = 1
  · have hK : ¬ K = 1 := by intro e; rw [if_pos ⟨h1, e⟩] at h; cases h
    subst h1
    clear h
    go_enter Try.func24, Try.ntmps24
    go_wp2
    go_ret2
    exact fin _ ka
  by_cases h2 : kind = 2
  · have hK : ¬ K = 2 := by intro e; rw [if_neg (by omega), if_pos ⟨h2, e⟩] at h; cases h
    subst h2
    clear h h1
    go_enter Try.func24, Try.ntmps24
    go_wp2
    go_ret2
    exact fin _ ka
  by_cases h3 : kind = 3
  · have hK : ¬ K = 0 := by intro e; rw [if_neg (by omega), if_neg (by omega), if_pos ⟨h3, e⟩] at h; cases h
    have hR : ¬ (K = 3 ∧ 0 ≤ r ∧ r ≤ 1099511627776) := by intro e; rw [if_neg (by omega), if_neg (by omega), if_neg (by omega), if_pos ⟨h3, e⟩] at h; cases h
    subst h3
    clear h h1 h2
    by_cases hK3 : K = 3
    · subst hK3
      by_cases hr : 0 ≤ r
      · have hr2 : ¬ r ≤ 1099511627776 := by omega
        clear hR
        go_enter Try.func24, Try.ntmps24
        go_wp2
        go_ret2
        exact fin _ ka
      · clear hR
        go_enter Try.func24, Try.ntmps24
        go_wp2
        go_ret2
        exact fin _ ka
    · clear hR
      go_enter Try.func24, Try.ntmps24
      go_wp2
      go_ret2
      exact fin _ ka
  clear h
  go_enter Try.func24, Try.ntmps24
  go_wp2
  go_ret2
  exact fin _ ka

theorem rvwords_any (kind K n p q r : Int) (w : World) : Calls Try.prog 24 #[.int .i64 kind, .agg #[.int .i64 K, .int .i64 n, .int .u64 p, .int .u64 q, .int .i64 r]] w (WPost (wordsV kind ⟨K, n, p, q, r⟩) w) := by
  cases ho : wordsV kind ⟨K, n, p, q, r⟩ with
  | none => exact rvwords_no kind K n p q r ho w
  | some l =>
    unfold wordsV at ho
    dsimp only at ho
    split at ho
    · rename_i h; obtain ⟨rfl, rfl⟩ := h; injection ho with ho; subst ho; exact rvwords_int n p q r w
    split at ho
    · rename_i h; obtain ⟨rfl, rfl⟩ := h; injection ho with ho; subst ho; exact rvwords_cplx n p q r w
    split at ho
    · rename_i h; obtain ⟨rfl, rfl⟩ := h; injection ho with ho; subst ho; exact rvwords_nil n p q r w
    split at ho
    · rename_i h; obtain ⟨rfl, rfl, h0, h1⟩ := h; injection ho with ho; subst ho; exact rvwords_ref n p q r h0 h1 w
    · cases ho

set_option maxHeartbeats 1000000 in
theorem rsw_same (w : World) (A B : Option Addr) (c c' : Nat) (l : List Int) (hA : Wd w A l) (hB : Wd w B l) :
    Calls Try.prog 14 #[.slice A l.length c, .slice B l.length c'] w fun e w' => e = .returned (.bool true) ∧ Dr w w' := by
  have hl := hA.len
  obtain ⟨k, hk⟩ : ∃ k, l.length = k := ⟨_, rfl⟩
  have HA := Lib.hid hA
  have HB := Lib.hid hB
  have HK := Lib.hid hk
  rw [hk] at hl ⊢
  clear hA hB hk
  go_enter Try.func14, Try.ntmps14
  go_wp2
  go_loopw [13] (fun x wr => ∃ j : Nat, j ≤ k ∧ x = .int .i64 j ∧ Dr w wr) (fun x _ => k - (RowKit.intOf x).toNat)
  case atStart => exact ⟨0, by omega, rfl, Dr.refl _⟩
  case round =>
    obtain ⟨j, hj, rfl, hd⟩ := hrel
    obtain ⟨m, rfl⟩ := hd
    by_cases hlt : j < k
    · obtain ⟨b, o, rfl, _, hc⟩ := HA.out.cells (by rw [HK.out]; omega)
      obtain ⟨b', o', rfl, _, hc'⟩ := HB.out.cells (by rw [HK.out]; omega)
      have ca := hc j (by rw [HK.out]; exact hlt)
      have cb := hc' j (by rw [HK.out]; exact hlt)
      obtain ⟨y, hy⟩ : ∃ y : Int, y = l.getD j 0 := ⟨_, rfl⟩
      rw [← hy] at ca cb
      clear hy hc hc'
      go_wp2
      go_quiet (fail)
      go_wp2
      go_roundw
      case rel => exact ⟨j + 1, by omega, by go_num, Dr.drewN _ _⟩
      case measure => simp [RowKit.intOf]; omega
    · have hjk : j = k := by omega
      subst hjk
      go_wp2
      go_ret
      exact ⟨rfl, Dr.drewN _ _⟩
end Go.Proofs.Ytbmnhngkmokklaa
