/-
  Arrays of four numbers as values: an element of one, two of them compared. No conditions.
-/
import Derived.Test.YtfihaaciaobolaaLcf
import Derived.ChangeKeysEq
import Derived.Laws.StructEq
namespace Go.Proofs.Ytfihaaciaobolaa
open Go.RowKit Go.Flo Go.Bit
set_option maxRecDepth 100000

section
variable (W : World) (a0 a1 a2 a3 c0 c1 c2 c3 : Int)
theorem idx40 : (Instr.index 22 (.agg #[.int .i64 a0, .int .i64 a1, .int .i64 a2, .int .i64 a3]) (.int .i64 0)).run Try.prog W = .ok (.int .i64 a0) W := by kernel_rfl
theorem idx41 : (Instr.index 22 (.agg #[.int .i64 a0, .int .i64 a1, .int .i64 a2, .int .i64 a3]) (.int .i64 1)).run Try.prog W = .ok (.int .i64 a1) W := by kernel_rfl
theorem idx42 : (Instr.index 22 (.agg #[.int .i64 a0, .int .i64 a1, .int .i64 a2, .int .i64 a3]) (.int .i64 2)).run Try.prog W = .ok (.int .i64 a2) W := by kernel_rfl
theorem idx43 : (Instr.index 22 (.agg #[.int .i64 a0, .int .i64 a1, .int .i64 a2, .int .i64 a3]) (.int .i64 3)).run Try.prog W = .ok (.int .i64 a3) W := by kernel_rfl
theorem part40 : (part 3 #[.int .i64 a0, .int .i64 a1, .int .i64 a2, .int .i64 a3] (0 * Try.prog.cellsOf 3)).run Try.prog W = .ok (.int .i64 a0) W := by kernel_rfl
theorem part41 : (part 3 #[.int .i64 a0, .int .i64 a1, .int .i64 a2, .int .i64 a3] (1 * Try.prog.cellsOf 3)).run Try.prog W = .ok (.int .i64 a1) W := by kernel_rfl
theorem part42 : (part 3 #[.int .i64 a0, .int .i64 a1, .int .i64 a2, .int .i64 a3] (2 * Try.prog.cellsOf 3)).run Try.prog W = .ok (.int .i64 a2) W := by kernel_rfl
theorem part43 : (part 3 #[.int .i64 a0, .int .i64 a1, .int .i64 a2, .int .i64 a3] (3 * Try.prog.cellsOf 3)).run Try.prog W = .ok (.int .i64 a3) W := by kernel_rfl
theorem eq4 : (Op.equalIn 10000 22 (.agg #[.int .i64 a0, .int .i64 a1, .int .i64 a2, .int .i64 a3]) (.agg #[.int .i64 c0, .int .i64 c1, .int .i64 c2, .int .i64 c3])).run Try.prog W = .ok (a0 == c0 && (a1 == c1 && (a2 == c2 && a3 == c3))) W := by
  obtain ⟨i, hi⟩ : ∃ i, Try.prog.info? 3 = some i := by
    have h : (Try.prog.info? 3).isSome = true := by kernel_rfl
    exact Option.isSome_iff_exists.1 h
  have h := run_equalIn_array W 9999 #[.int .i64 a0, .int .i64 a1, .int .i64 a2, .int .i64 a3] #[.int .i64 c0, .int .i64 c1, .int .i64 c2, .int .i64 c3] Try.underlying22 hi
  have hr : List.range 4 = [0, 1, 2, 3] := rfl
  rw [hr] at h
  rw [show (10000 : Nat) = 9999 + 1 from rfl, h]
  have he : ∀ (x y : Int), (Op.equalIn 9999 3 (.int .i64 x) (.int .i64 y)).run Try.prog W = .ok (x == y) W := fun x y => run_equalIn_int W 9998 3 .i64 .i64 x y Try.underlying3
  simp only [Op.eqItems, Sem.run_bind, part40, he, Result.andThen_ok]
  cases a0 == c0
  · simp
  · simp only [Bool.not_true, Bool.false_eq_true, if_false, Bool.true_and, Sem.run_bind, part41, he, Result.andThen_ok]
    cases a1 == c1
    · simp
    · simp only [Bool.not_true, Bool.false_eq_true, if_false, Bool.true_and, Sem.run_bind, part42, he, Result.andThen_ok]
      cases a2 == c2
      · simp
      · simp only [Bool.not_true, Bool.false_eq_true, if_false, Bool.true_and, Sem.run_bind, part43, he, Result.andThen_ok]
        cases a3 == c3
        · simp
        · simp
end
end Go.Proofs.Ytfihaaciaobolaa
