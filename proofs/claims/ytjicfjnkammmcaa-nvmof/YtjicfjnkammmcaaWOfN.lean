/-
  Of of nil. No conditions.
-/
import Derived.Test.YtjicfjnkammmcaaTwo
namespace Go.Proofs.Ytjicfjnkammmcaa
open Go.RowKit Go.Flo

/-! A device of no words at all, its rows nil. -/

theorem clone_nil (w : World) (c : Nat) : Calls Try.prog 39 #[.slice none 0 c] w fun e w' => e = .returned (.slice none 0 0) ∧ w = w' := by
  have hq : ∀ W : World, (binOp .eql 48 (.slice none 0 c) (.slice none 0 0)).run Try.prog W = .ok (.bool true) W := fun W => Lib.run_eql_slice_nil W 48 28 none 0 c 0 0 Try.underlying48
  go_enter Try.func39, Try.ntmps39
  go_wp2
  go_ret
  exact ⟨rfl, rfl⟩

def NilDev (w : World) (d t f : Nat) : Prop := Blk w d 68 #[.slice none 0 0, .slice none 0 0, .slice (some ⟨t, 0, none⟩) 0 0, .slice (some ⟨f, 0, none⟩) 0 0, .int .i64 0, .int .i64 0, .bool false]

def NilPost (w : World) (e : Ending) (w' : World) : Prop := ∃ d t f, e = .returned (.pointer (some ⟨d, 0, none⟩)) ∧ NilDev w' d t f ∧ w.heap.size ≤ d ∧ Keep [] w w'

theorem nil_built {w W : World} {d t f : Nat} (hk : Keep [] w W) (hd : d = W.heap.size) :
    NilPost w (.returned (.pointer (some ⟨d, 0, none⟩))) (W.alloc (.cells #[.slice none 0 0, .slice none 0 0, .slice (some ⟨t, 0, none⟩) 0 0, .slice (some ⟨f, 0, none⟩) 0 0, .int .i64 0, .int .i64 0, .bool false] 68)) := by
  subst hd
  exact ⟨_, t, f, rfl, Blk.new W 68 _, hk.size, hk.trans (Keep.alloc _ _)⟩

theorem nil_built' {w W : World} {d t f : Nat} (hk : Keep [] w W) (hd : d = W.heap.size) :
    NilPost w (.returned (.pointer (some ⟨d, 0, none⟩))) (W.alloc (.cells #[.slice none 0 0, .slice none 0 0, .slice (some ⟨t, 0, none⟩) 0 0, .slice (some ⟨f, 0, none⟩) 0 0, .int .i64 0, .int .i64 0, .bool false] 68)).drew := by
  obtain ⟨d', t', f', e, h1, h2, h3⟩ := nil_built (t := t) (f := f) hk hd
  exact ⟨d', t', f', e, h1, h2, h3.trans (Keep.drew _)⟩

set_option maxHeartbeats 4000000 in
theorem of_nil (w : World) : Calls Try.prog 31 #[.slice none 0 0] w (NilPost w) := by
  obtain ⟨i28, hi28, z28a, z28b, z28c⟩ := info_parts parts28
  obtain ⟨i4, hi4, z4a, z4b, z4c⟩ := info_parts parts4
  have hm1 : ∀ W : World, (Instr.makeSlice 48 (.int .i64 0) (.int .i64 0)).run Try.prog W = .ok (.slice (some ⟨W.heap.size, 0, none⟩) 0 0) (W.alloc (.cells (madeCells (Value.int .u64 0).cells (0 * 1)) 28)) := by
    intro W
    have := run_make (P := Try.prog) W 48 28 i28 (.int .u64 0) Try.underlying48 hi28 z28a .i64 .i64 0 0 (by omega) (by omega) (by rw [z28c]; omega) (by omega)
    rw [z28b] at this
    simpa using this
  have hm2 : ∀ W : World, (Instr.makeSlice 66 (.int .i64 0) (.int .i64 0)).run Try.prog W = .ok (.slice (some ⟨W.heap.size, 0, none⟩) 0 0) (W.alloc (.cells (madeCells (Value.bool false).cells (0 * 1)) 4)) := by
    intro W
    have := run_make (P := Try.prog) W 66 4 i4 (.bool false) Try.underlying66 hi4 z4a .i64 .i64 0 0 (by omega) (by omega) (by rw [z4c]; omega) (by omega)
    rw [z4b] at this
    simpa using this
  generalize madeCells (Value.int .u64 0).cells (0 * 1) = Z1 at *
  generalize madeCells (Value.bool false).cells (0 * 1) = Z2 at *
  clear hi28 hi4 z28a z28b z28c z4a z4b z4c
  have w1 : IntKind.i64.wrap ((0 : Int) + 8) = 8 := by rw [IntKind.wrap_i64]; omega
  have w1' : IntKind.i64.wrap (8 : Int) = 8 := by rw [IntKind.wrap_i64]; omega
  have w2 : IntKind.i64.wrap (8 - 1 : Int) = 7 := by rw [IntKind.wrap_i64]; omega
  have w2' : IntKind.i64.wrap (7 : Int) = 7 := by rw [IntKind.wrap_i64]; omega
  have w3 : (7 : Int).tdiv 8 = 0 := by decide
  have w4 : IntKind.i64.wrap (0 : Int) = 0 := by rw [IntKind.wrap_i64]; omega
  go_enter Try.func31, Try.ntmps31
  go_wp2_with fail
  go_region_with (go_at_call 39; refine (clone_nil _ 0).mono ?_; rintro e w' ⟨rfl, rfl⟩)
  all_goals
    go_wp2
    go_ret
    first | refine nil_built ?_ ?_ | refine nil_built' ?_ ?_
    · repeat (first | (with_reducible exact Keep.refl _ _) | (with_reducible refine Keep.trans ?_ (Keep.alloc _ _)) | (with_reducible refine Keep.trans ?_ (Keep.drew _)))
    · simp

end Go.Proofs.Ytjicfjnkammmcaa
