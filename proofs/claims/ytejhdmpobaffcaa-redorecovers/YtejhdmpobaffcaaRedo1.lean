/-
  Package redo: the log's own questions. No conditions but what a device is.
-/
import Derived.Test.YtejhdmpobaffcaaPlay
import Derived.BigQuiet
import Derived.Deep.QuietTactic
namespace Go.Proofs.Ytejhdmpobaffcaa
open Go.RowKit Go.Flo
set_option maxRecDepth 100000

/-- Words of a log. -/
def needI (x : Int) : Int := if x < 0 ∨ 1024 < x then 0 else 8 + 2 * x

theorem need_any (w : World) (x : Int) : Calls Try.prog 12 #[.int .i64 x] w fun e w' => e = .returned (.int .i64 (needI x)) ∧ w = w' := by
  by_cases h0 : x < 0
  · have e : needI x = 0 := by unfold needI; rw [if_pos (by omega)]
    rw [e]
    go_enter Try.func12, Try.ntmps12
    go_wp2
    go_ret
    exact ⟨rfl, rfl⟩
  · by_cases h1 : 1024 < x
    · have e : needI x = 0 := by unfold needI; rw [if_pos (by omega)]
      rw [e]
      have h0' : 0 ≤ x := by omega
      clear e
      go_enter Try.func12, Try.ntmps12
      go_wp2
      go_ret
      exact ⟨rfl, rfl⟩
    · have e : needI x = 8 + 2 * x := by unfold needI; rw [if_neg (by omega)]
      rw [e]
      have h0' : 0 ≤ x := by omega
      have h1' : x ≤ 1024 := by omega
      clear e
      go_enter Try.func12, Try.ntmps12
      go_wp2
      go_ret
      exact ⟨rfl, rfl⟩

/-- May a log lie there? -/
def mayB (n : Nat) (f t : Int) : Bool := decide (0 ≤ f) && (decide (f < t) && (decide (t ≤ n) && (f % 8 == 0)))

set_option maxHeartbeats 1000000 in
theorem may_any (w : World) (L : Loc) (S : St) (h : Dev w L S) (f t : Int) :
    Calls Try.prog 39 #[.agg #[.pointer (some ⟨L.d, 0, none⟩), .int .i64 f, .int .i64 t]] w fun e w' => e = .returned (.bool (mayB S.n f t)) ∧ Keep [] w w' := by
  have k0 : Keep [] w (w.alloc (.cells #[.pointer (some ⟨L.d, 0, none⟩), .int .i64 f, .int .i64 t] 73)) := Keep.alloc _ _
  have hD := h.keep k0 (by simp)
  have hl := fun m => len_any _ L S (hD.dr_ (Dr.drewN _ m))
  have HL := Lib.hid hl
  have hn := h.n
  clear hl h hD
  by_cases h0 : 0 ≤ f
  · have d0 : decide (0 ≤ f) = true := by simpa using h0
    by_cases h1 : f < t
    · have d1 : decide (f < t) = true := by simpa using h1
      by_cases h2 : t ≤ S.n
      · have d2 : decide (t ≤ (S.n : Int)) = true := by simpa using h2
        by_cases h3 : f % 8 = 0
        · have d3 : (f % 8 == 0) = true := by simpa using h3
          have e : mayB S.n f t = true := by simp [mayB, h0, h1, h2, h3]
          rw [e]
          clear e h3
          go_enter Try.func39, Try.ntmps39
          go_wp2_with fail
          go_quiet ((go_at_call 63; refine quiet_same (HL.out _)))
          go_wp2
          go_ret
          exact ⟨by simp_all, k0.trans (Keep.dr (Dr.drewN _ _))⟩
        · have d3 : (f % 8 == 0) = false := by simpa using h3
          have e : mayB S.n f t = false := by simp [mayB, h3]
          rw [e]
          clear e h3
          go_enter Try.func39, Try.ntmps39
          go_wp2_with fail
          go_quiet ((go_at_call 63; refine quiet_same (HL.out _)))
          go_wp2
          go_ret
          exact ⟨by simp_all, k0.trans (Keep.dr (Dr.drewN _ _))⟩
      · have d2 : decide (t ≤ (S.n : Int)) = false := by simpa using h2
        have e : mayB S.n f t = false := by simp [mayB, h2]
        rw [e]
        clear e h2
        go_enter Try.func39, Try.ntmps39
        go_wp2_with fail
        go_quiet ((go_at_call 63; refine quiet_same (HL.out _)))
        go_wp2
        go_ret
        exact ⟨rfl, k0.trans (Keep.dr (Dr.drewN _ _))⟩
    · have d1 : decide (f < t) = false := by simpa using h1
      have e : mayB S.n f t = false := by simp [mayB, h1]
      rw [e]
      clear e h1
      go_enter Try.func39, Try.ntmps39
      go_wp2_with fail
      go_quiet ((go_at_call 63; refine quiet_same (HL.out _)))
      go_wp2
      go_ret
      exact ⟨rfl, k0.trans (Keep.dr (Dr.drewN _ _))⟩
  · have d0 : decide (0 ≤ f) = false := by simpa using h0
    have e : mayB S.n f t = false := by simp [mayB, h0]
    rw [e]
    clear e h0
    go_enter Try.func39, Try.ntmps39
    go_wp2_with fail
    go_quiet ((go_at_call 63; refine quiet_same (HL.out _)))
    go_wp2
    go_ret
    exact ⟨rfl, k0.trans (Keep.dr (Dr.drewN _ _))⟩

set_option maxHeartbeats 1000000 in
theorem may_nil (w : World) (f t : Int) :
    Calls Try.prog 39 #[.agg #[.pointer none, .int .i64 f, .int .i64 t]] w fun e w' => e = .returned (.bool false) ∧ Keep [] w w' := by
  have k0 : Keep [] w (w.alloc (.cells #[.pointer none, .int .i64 f, .int .i64 t] 73)) := Keep.alloc _ _
  go_enter Try.func39, Try.ntmps39
  go_wp2_with fail
  go_quiet (fail)
  go_wp2
  go_ret
  exact ⟨rfl, k0.trans (Keep.dr (Dr.drewN _ _))⟩

/-- Does a log hold so many? -/
def holdsB (f t : Int) (x : Int) : Bool := decide (x ≤ 1024) && decide (8 + 2 * x ≤ t - f)

set_option maxHeartbeats 1000000 in
theorem holds_any (w : World) (L : Loc) (f t : Int) (x : Int) (x0 : 0 ≤ x) (f0 : 0 ≤ f) (f1 : f < t) (t1 : t ≤ 65536) :
    Calls Try.prog 40 #[.agg #[.pointer (some ⟨L.d, 0, none⟩), .int .i64 f, .int .i64 t], .int .u64 x] w fun e w' => e = .returned (.bool (holdsB f t x)) ∧ Keep [] w w' := by
  have k0 : Keep [] w (w.alloc (.cells #[.pointer (some ⟨L.d, 0, none⟩), .int .i64 f, .int .i64 t] 73)) := Keep.alloc _ _
  by_cases h1 : x ≤ 1024
  · have d1 : decide (x ≤ 1024) = true := by simpa using h1
    have e1 : IntKind.i64.wrap x = x := IntWalk.i64_in _ (by omega)
    have e2 : IntKind.i64.wrap (t - f) = t - f := IntWalk.i64_in _ (by omega)
    have hn : needI x = 8 + 2 * x := by unfold needI; rw [if_neg (by omega)]
    have hc := fun W => need_any W x
    rw [hn] at hc
    have HC := Lib.hid hc
    have e : holdsB f t x = decide (8 + 2 * x ≤ t - f) := by simp [holdsB, h1]
    rw [e]
    clear e hn hc
    generalize 8 + 2 * x = y at *
    cases d2 : decide (y ≤ t - f)
    · go_enter Try.func40, Try.ntmps40
      go_wp2_with fail
      go_quiet ((go_at_call 12; refine quiet_same (HC.out _)))
      go_wp2
      go_ret
      exact ⟨by simp_all, k0.trans (Keep.dr (Dr.drewN _ _))⟩
    · go_enter Try.func40, Try.ntmps40
      go_wp2_with fail
      go_quiet ((go_at_call 12; refine quiet_same (HC.out _)))
      go_wp2
      go_ret
      exact ⟨by simp_all, k0.trans (Keep.dr (Dr.drewN _ _))⟩
  · have d1 : decide (x ≤ 1024) = false := by simpa using h1
    have e : holdsB f t x = false := by simp [holdsB, h1]
    rw [e]
    clear e h1
    go_enter Try.func40, Try.ntmps40
    go_wp2_with fail
    go_quiet (fail)
    go_wp2
    go_ret
    exact ⟨rfl, k0.trans (Keep.dr (Dr.drewN _ _))⟩

/-- Is there such a word that is none of the log's? -/
def okB (n : Nat) (f t : Int) (x : Int) : Bool := decide (x < n) && !(decide (f ≤ x) && decide (x < t))

set_option maxHeartbeats 1000000 in
theorem other_any (w : World) (L : Loc) (S : St) (h : Dev w L S) (f t : Int) (x : Int) (f0 : 0 ≤ f) (f1 : f < t) (t1 : t ≤ 65536) :
    Calls Try.prog 64 #[.agg #[.pointer (some ⟨L.d, 0, none⟩), .int .i64 f, .int .i64 t], .int .u64 x] w fun e w' => e = .returned (.bool (okB S.n f t x)) ∧ Keep [] w w' := by
  have k0 : Keep [] w (w.alloc (.cells #[.pointer (some ⟨L.d, 0, none⟩), .int .i64 f, .int .i64 t] 73)) := Keep.alloc _ _
  have hD := h.keep k0 (by simp)
  have hl := len_any _ L S hD
  have hn := h.n
  have e1 : IntKind.u64.wrap f = f := IntWalk.u64_in _ (by omega)
  have e2 : IntKind.u64.wrap t = t := IntWalk.u64_in _ (by omega)
  have e3 : IntKind.u64.wrap (S.n : Int) = S.n := IntWalk.u64_in _ (by omega)
  clear h hD
  by_cases h1 : f ≤ x
  · have d1 : decide (f ≤ x) = true := by simpa using h1
    go_enter Try.func64, Try.ntmps64
    go_wp2_with fail
    (with_reducible refine hl.mono ?_)
    rintro e w' ⟨rfl, rfl⟩
    cases d3 : decide (x < (S.n : Int))
    · go_wp2
      go_ret
      exact ⟨by simp_all [okB]; omega, k0⟩
    · go_wp2
      go_ret
      exact ⟨by simp_all [okB], k0⟩
  · have d1 : decide (f ≤ x) = false := by simpa using h1
    go_enter Try.func64, Try.ntmps64
    go_wp2_with fail
    (with_reducible refine hl.mono ?_)
    rintro e w' ⟨rfl, rfl⟩
    cases d3 : decide (x < (S.n : Int))
    · go_wp2
      go_ret
      exact ⟨by simp_all [okB]; omega, k0⟩
    · go_wp2
      go_ret
      exact ⟨by simp_all [okB], k0⟩

theorem place_any (w : World) (L : Loc) (f t : Int) (i : Nat) (f0 : 0 ≤ f) (f1 : f ≤ 65536) (hi' : i ≤ 65536) :
    Calls Try.prog 72 #[.agg #[.pointer (some ⟨L.d, 0, none⟩), .int .i64 f, .int .i64 t], .int .i64 i] w fun e w' => e = .returned (.int .i64 (f + 8 + 2 * i)) ∧ Keep [] w w' := by
  have k0 : Keep [] w (w.alloc (.cells #[.pointer (some ⟨L.d, 0, none⟩), .int .i64 f, .int .i64 t] 73)) := Keep.alloc _ _
  go_enter Try.func72, Try.ntmps72
  go_wp2
  go_ret
  exact ⟨rfl, k0⟩
end Go.Proofs.Ytejhdmpobaffcaa
