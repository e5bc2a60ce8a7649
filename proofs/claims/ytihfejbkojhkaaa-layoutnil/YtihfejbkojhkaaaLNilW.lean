/-
  LayoutNil's walk. No conditions.
-/
import Derived.Test.YtihfejbkojhkaaaLnil
import Derived.Test.YtihfejbkojhkaaaLawk
namespace Go.Proofs.Ytihfejbkojhkaaa
open Go.RowKit Go.Flo Go.Bit
set_option maxRecDepth 100000

set_option maxHeartbeats 1000000 in
theorem walk_nil (w : World) (b : Int) : Calls Try.prog 6 #[.int .i64 b] w fun e w' => e = .returned (.bool true) ∧ Keep [] w w' := by
  have g0 := log_nil w
  have g1 := range_nil w b
  have g2 := words_nil w
  have g3 := blocks_nil w
  have g4 := size_nil w b
  have g5 := class_nil w b
  have g6 := at_nil w b
  have g7 := bits_nil w b
  have g8 := root_nil w b
  have g9 := weak_nil w b
  have g10 := pages_nil w
  have g11 := super_nil w
  have gc := config_nil w
  go_enter Try.func6, Try.ntmps6
  go_wp2_with fail
  (with_reducible refine g0.mono ?_)
  rintro e w' ⟨rfl, rfl⟩
  clear g0
  go_wp2_with fail
  (with_reducible refine g1.mono ?_)
  rintro e w' ⟨rfl, rfl⟩
  clear g1
  go_wp2_with fail
  (with_reducible refine g2.mono ?_)
  rintro e w' ⟨rfl, rfl⟩
  clear g2
  go_wp2_with fail
  (with_reducible refine g3.mono ?_)
  rintro e w' ⟨rfl, rfl⟩
  clear g3
  go_wp2_with fail
  (with_reducible refine g4.mono ?_)
  rintro e w' ⟨rfl, rfl⟩
  clear g4
  go_wp2_with fail
  (with_reducible refine g5.mono ?_)
  rintro e w' ⟨rfl, rfl⟩
  clear g5
  go_wp2_with fail
  (with_reducible refine g6.mono ?_)
  rintro e w' ⟨rfl, rfl⟩
  clear g6
  go_wp2_with fail
  (with_reducible refine g7.mono ?_)
  rintro e w' ⟨rfl, rfl⟩
  clear g7
  go_wp2_with fail
  (with_reducible refine g8.mono ?_)
  rintro e w' ⟨rfl, rfl⟩
  clear g8
  go_wp2_with fail
  (with_reducible refine g9.mono ?_)
  rintro e w' ⟨rfl, rfl⟩
  clear g9
  go_wp2_with fail
  (with_reducible refine g10.mono ?_)
  rintro e w' ⟨rfl, rfl⟩
  clear g10
  go_wp2_with fail
  (with_reducible refine g11.mono ?_)
  rintro e w' ⟨rfl, rfl⟩
  clear g11
  go_wp2_with fail
  (with_reducible refine gc.mono ?_)
  rintro e w1 ⟨rfl, k1⟩
  have ga := awake6_any w1
  have hfl : ∀ W, (Instr.field 25 (.agg #[.slice none 0 0, .int .i64 0, .int .i64 0, .int .i64 0, .int .i64 0, .int .i64 0, .int .i64 0, .int .i64 0]) 0).run Try.prog W = .ok (.slice none 0 0) W := fun W => by kernel_rfl
  clear gc
  go_wp2_with fail
  (with_reducible refine ga.mono ?_)
  rintro e w2 ⟨rfl, k2⟩
  go_wp2
  go_ret
  exact ⟨rfl, k1.trans k2⟩
end Go.Proofs.Ytihfejbkojhkaaa
