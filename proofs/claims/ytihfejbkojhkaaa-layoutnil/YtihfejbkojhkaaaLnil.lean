/-
  Package layout: of no layout. No conditions.
-/
import Derived.Test.YtihfejbkojhkaaaLay1
import Derived.Handy
namespace Go.Proofs.Ytihfejbkojhkaaa
open Go.RowKit Go.Flo Go.Bit
set_option maxRecDepth 100000

theorem parts80 (w : World) : Calls Try.prog 47 #[.int .i64 0, .int .i64 8] w fun e w' => e = .returned (.int .i64 0) ∧ w = w' := parts8 0 (by omega) w

theorem words_nil (w : World) : Calls Try.prog 16 #[.pointer none] w fun e w' => e = .returned (.int .i64 0) ∧ w = w' := by
  go_enter Try.func16, Try.ntmps16
  go_wp2
  go_ret
  exact ⟨rfl, rfl⟩

theorem log_nil (w : World) : Calls Try.prog 20 #[.pointer none] w fun e w' => e = .returned (.tuple #[.int .i64 0, .int .i64 0]) ∧ w = w' := by
  go_enter Try.func20, Try.ntmps20
  go_wp2
  go_ret2
  exact ⟨rfl, rfl⟩

theorem blocks_nil (w : World) : Calls Try.prog 17 #[.pointer none] w fun e w' => e = .returned (.int .i64 0) ∧ w = w' := by
  go_enter Try.func17, Try.ntmps17
  go_wp2
  go_ret
  exact ⟨rfl, rfl⟩

theorem has_nil (w : World) (b : Int) : Calls Try.prog 49 #[.pointer none, .int .i64 b] w fun e w' => e = .returned (.bool false) ∧ w = w' := by
  have hl := blocks_nil w
  by_cases h1 : 0 ≤ b
  · have h2 : decide (b < (0 : Int)) = false := by simp; omega
    go_enter Try.func49, Try.ntmps49
    go_wp2_with fail
    (with_reducible refine hl.mono ?_)
    rintro e w' ⟨rfl, rfl⟩
    go_wp2
    go_ret
    exact ⟨rfl, rfl⟩
  · go_enter Try.func49, Try.ntmps49
    go_wp2
    go_ret
    exact ⟨rfl, rfl⟩

theorem class_nil (w : World) (b : Int) : Calls Try.prog 27 #[.pointer none, .int .i64 b] w fun e w' => e = .returned (.int .i64 (-1)) ∧ w = w' := by
  have hh := has_nil w b
  go_enter Try.func27, Try.ntmps27
  go_wp2_with fail
  (with_reducible refine hh.mono ?_)
  rintro e w' ⟨rfl, rfl⟩
  go_wp2
  go_ret
  exact ⟨rfl, rfl⟩

theorem size_nil (w : World) (b : Int) : Calls Try.prog 28 #[.pointer none, .int .i64 b] w fun e w' => e = .returned (.int .i64 0) ∧ w = w' := by
  have hh := class_nil w b
  go_enter Try.func28, Try.ntmps28
  go_wp2_with fail
  (with_reducible refine hh.mono ?_)
  rintro e w' ⟨rfl, rfl⟩
  go_wp2
  go_ret
  exact ⟨rfl, rfl⟩

theorem range_nil (w : World) (b : Int) : Calls Try.prog 32 #[.pointer none, .int .i64 b] w fun e w' => e = .returned (.tuple #[.int .i64 0, .int .i64 0]) ∧ w = w' := by
  go_enter Try.func32, Try.ntmps32
  go_wp2
  go_ret2
  exact ⟨rfl, rfl⟩

theorem at_nil (w : World) (b : Int) : Calls Try.prog 29 #[.pointer none, .int .i64 b] w fun e w' => e = .returned (.int .i64 (-1)) ∧ w = w' := by
  have hh := class_nil w b
  go_enter Try.func29, Try.ntmps29
  go_wp2_with fail
  (with_reducible refine hh.mono ?_)
  rintro e w' ⟨rfl, rfl⟩
  go_wp2
  go_ret
  exact ⟨rfl, rfl⟩

theorem bits_nil (w : World) (b : Int) : Calls Try.prog 31 #[.pointer none, .int .i64 b] w fun e w' => e = .returned (.int .i64 (-1)) ∧ w = w' := by
  have hh := has_nil w b
  go_enter Try.func31, Try.ntmps31
  go_wp2_with fail
  (with_reducible refine hh.mono ?_)
  rintro e w' ⟨rfl, rfl⟩
  go_wp2
  go_ret
  exact ⟨rfl, rfl⟩

theorem root_nil (w : World) (b : Int) : Calls Try.prog 23 #[.pointer none, .int .i64 b] w fun e w' => e = .returned (.int .i64 (-1)) ∧ w = w' := by
  go_enter Try.func23, Try.ntmps23
  go_wp2
  go_ret
  exact ⟨rfl, rfl⟩

theorem weak_nil (w : World) (b : Int) : Calls Try.prog 24 #[.pointer none, .int .i64 b] w fun e w' => e = .returned (.int .i64 (-1)) ∧ w = w' := by
  go_enter Try.func24, Try.ntmps24
  go_wp2
  go_ret
  exact ⟨rfl, rfl⟩

theorem pages_nil (w : World) : Calls Try.prog 18 #[.pointer none] w fun e w' => e = .returned (.int .i64 0) ∧ w = w' := by
  have hl := blocks_nil w
  have hp := parts80 w
  go_enter Try.func18, Try.ntmps18
  go_wp2_with fail
  (with_reducible refine hl.mono ?_)
  rintro e w' ⟨rfl, rfl⟩
  go_wp2_with fail
  (with_reducible refine hp.mono ?_)
  rintro e w' ⟨rfl, rfl⟩
  go_wp2
  go_ret
  exact ⟨rfl, rfl⟩

theorem super_nil (w : World) : Calls Try.prog 35 #[.pointer none] w fun e w' => e = .returned (.slice none 0 0) ∧ w = w' := by
  go_enter Try.func35, Try.ntmps35
  go_wp2
  go_ret
  exact ⟨rfl, rfl⟩

theorem config_nil (w : World) : Calls Try.prog 22 #[.pointer none] w fun e w' => e = .returned (.agg #[.slice none 0 0, .int .i64 0, .int .i64 0, .int .i64 0, .int .i64 0, .int .i64 0, .int .i64 0, .int .i64 0]) ∧ Keep [] w w' := by
  have hbd : (Try.prog.built 25 []) = some #[.slice none 0 0, .int .i64 0, .int .i64 0, .int .i64 0, .int .i64 0, .int .i64 0, .int .i64 0, .int .i64 0] := by kernel_rfl
  go_enter Try.func22, Try.ntmps22
  go_wp2
  go_returns
  exact ⟨rfl, Keep.alloc _ _⟩
end Go.Proofs.Ytihfejbkojhkaaa
