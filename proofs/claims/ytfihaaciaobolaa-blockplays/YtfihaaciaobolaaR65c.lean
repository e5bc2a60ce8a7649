/-
  The document's twin of layout: Class. No conditions but what is in memory.
-/
import Derived.Test.YtfihaaciaobolaaR62
import Derived.Test.YtfihaaciaobolaaLay5
namespace Go.Proofs.Ytfihaaciaobolaa
open Go.RowKit Go.Flo Go.Bit
set_option maxRecDepth 100000

theorem rclass_0 {w : World} {g : Nat} {A : Option Addr} {cap : Nat} {C : Cf} (h : RLy w g A cap C) (b : Nat) (h1 : (0 : Nat) ≤ b) (h2 : b < C.f1) : Calls Try.prog 47 #[.pointer (some ⟨g, 0, none⟩), .int .i64 b] w fun e w' => e = .returned (.int .i64 0) ∧ w = w' := by
  have hm := C.mono
  have c0 : b < C.f1 := by omega
  have q14 := (Blk.cell h 14).trans (show _ = some (Value.int .i64 0) from rfl)
  have q15 := (Blk.cell h 15).trans (show _ = some (Value.int .i64 C.f1) from rfl)
  have q16 := (Blk.cell h 16).trans (show _ = some (Value.int .i64 C.f2) from rfl)
  have q17 := (Blk.cell h 17).trans (show _ = some (Value.int .i64 C.f3) from rfl)
  have q18 := (Blk.cell h 18).trans (show _ = some (Value.int .i64 C.all) from rfl)
  clear h hm h1 h2
  go_enter Try.func47, Try.ntmps47
  go_wp2
  refine wp_loop_rounds 1 ?_
  rw [rounds_succ]; go_wp2
  go_ret
  exact ⟨rfl, rfl⟩

theorem rclass_1 {w : World} {g : Nat} {A : Option Addr} {cap : Nat} {C : Cf} (h : RLy w g A cap C) (b : Nat) (h1 : C.f1 ≤ b) (h2 : b < C.f2) : Calls Try.prog 47 #[.pointer (some ⟨g, 0, none⟩), .int .i64 b] w fun e w' => e = .returned (.int .i64 1) ∧ w = w' := by
  have hm := C.mono
  have c0 : ¬ b < C.f1 := by omega
  have a1 : C.f1 ≤ b := by omega
  have c1 : b < C.f2 := by omega
  have q14 := (Blk.cell h 14).trans (show _ = some (Value.int .i64 0) from rfl)
  have q15 := (Blk.cell h 15).trans (show _ = some (Value.int .i64 C.f1) from rfl)
  have q16 := (Blk.cell h 16).trans (show _ = some (Value.int .i64 C.f2) from rfl)
  have q17 := (Blk.cell h 17).trans (show _ = some (Value.int .i64 C.f3) from rfl)
  have q18 := (Blk.cell h 18).trans (show _ = some (Value.int .i64 C.all) from rfl)
  clear h hm h1 h2
  go_enter Try.func47, Try.ntmps47
  go_wp2
  refine wp_loop_rounds 2 ?_
  rw [rounds_succ]; go_wp2
  rw [rounds_succ]; go_wp2
  go_ret
  exact ⟨rfl, rfl⟩

theorem rclass_2 {w : World} {g : Nat} {A : Option Addr} {cap : Nat} {C : Cf} (h : RLy w g A cap C) (b : Nat) (h1 : C.f2 ≤ b) (h2 : b < C.f3) : Calls Try.prog 47 #[.pointer (some ⟨g, 0, none⟩), .int .i64 b] w fun e w' => e = .returned (.int .i64 2) ∧ w = w' := by
  have hm := C.mono
  have c0 : ¬ b < C.f1 := by omega
  have a1 : C.f1 ≤ b := by omega
  have c1 : ¬ b < C.f2 := by omega
  have a2 : C.f2 ≤ b := by omega
  have c2 : b < C.f3 := by omega
  have q14 := (Blk.cell h 14).trans (show _ = some (Value.int .i64 0) from rfl)
  have q15 := (Blk.cell h 15).trans (show _ = some (Value.int .i64 C.f1) from rfl)
  have q16 := (Blk.cell h 16).trans (show _ = some (Value.int .i64 C.f2) from rfl)
  have q17 := (Blk.cell h 17).trans (show _ = some (Value.int .i64 C.f3) from rfl)
  have q18 := (Blk.cell h 18).trans (show _ = some (Value.int .i64 C.all) from rfl)
  clear h hm h1 h2
  go_enter Try.func47, Try.ntmps47
  go_wp2
  refine wp_loop_rounds 3 ?_
  rw [rounds_succ]; go_wp2
  rw [rounds_succ]; go_wp2
  rw [rounds_succ]; go_wp2
  go_ret
  exact ⟨rfl, rfl⟩

theorem rclass_3 {w : World} {g : Nat} {A : Option Addr} {cap : Nat} {C : Cf} (h : RLy w g A cap C) (b : Nat) (h1 : C.f3 ≤ b) (h2 : b < C.all) : Calls Try.prog 47 #[.pointer (some ⟨g, 0, none⟩), .int .i64 b] w fun e w' => e = .returned (.int .i64 3) ∧ w = w' := by
  have hm := C.mono
  have c0 : ¬ b < C.f1 := by omega
  have a1 : C.f1 ≤ b := by omega
  have c1 : ¬ b < C.f2 := by omega
  have a2 : C.f2 ≤ b := by omega
  have c2 : ¬ b < C.f3 := by omega
  have a3 : C.f3 ≤ b := by omega
  have c3 : b < C.all := by omega
  have q14 := (Blk.cell h 14).trans (show _ = some (Value.int .i64 0) from rfl)
  have q15 := (Blk.cell h 15).trans (show _ = some (Value.int .i64 C.f1) from rfl)
  have q16 := (Blk.cell h 16).trans (show _ = some (Value.int .i64 C.f2) from rfl)
  have q17 := (Blk.cell h 17).trans (show _ = some (Value.int .i64 C.f3) from rfl)
  have q18 := (Blk.cell h 18).trans (show _ = some (Value.int .i64 C.all) from rfl)
  clear h hm h1 h2
  go_enter Try.func47, Try.ntmps47
  go_wp2
  refine wp_loop_rounds 4 ?_
  rw [rounds_succ]; go_wp2
  rw [rounds_succ]; go_wp2
  rw [rounds_succ]; go_wp2
  rw [rounds_succ]; go_wp2
  go_ret
  exact ⟨rfl, rfl⟩

theorem rclass_yes {w : World} {g : Nat} {A : Option Addr} {cap : Nat} {C : Cf} (h : RLy w g A cap C) (b : Nat) (hlt : b < C.all) : Calls Try.prog 47 #[.pointer (some ⟨g, 0, none⟩), .int .i64 b] w fun e w' => e = .returned (.int .i64 (C.cls b : Nat)) ∧ w = w' := by
  by_cases h1 : b < C.f1
  · rw [show C.cls b = 0 by unfold Cf.cls; simp [h1]]
    exact rclass_0 h b (by omega) h1
  · by_cases h2 : b < C.f2
    · rw [show C.cls b = 1 by unfold Cf.cls; simp [h1, h2]]
      exact rclass_1 h b (by omega) h2
    · by_cases h3 : b < C.f3
      · rw [show C.cls b = 2 by unfold Cf.cls; simp [h1, h2, h3]]
        exact rclass_2 h b (by omega) h3
      · rw [show C.cls b = 3 by unfold Cf.cls; simp [h1, h2, h3]]
        exact rclass_3 h b (by omega) hlt

theorem rclass_no {w : World} {g : Nat} {A : Option Addr} {cap : Nat} {C : Cf} (h : RLy w g A cap C) (b : Int) (hb : b < 0 ∨ C.all ≤ b) : Calls Try.prog 47 #[.pointer (some ⟨g, 0, none⟩), .int .i64 b] w fun e w' => e = .returned (.int .i64 (-1)) ∧ w = w' := by
  have hm := C.mono
  have q14 := (Blk.cell h 14).trans (show _ = some (Value.int .i64 0) from rfl)
  have q15 := (Blk.cell h 15).trans (show _ = some (Value.int .i64 C.f1) from rfl)
  have q16 := (Blk.cell h 16).trans (show _ = some (Value.int .i64 C.f2) from rfl)
  have q17 := (Blk.cell h 17).trans (show _ = some (Value.int .i64 C.f3) from rfl)
  have q18 := (Blk.cell h 18).trans (show _ = some (Value.int .i64 C.all) from rfl)
  clear h
  by_cases hz : b < 0
  · have a0 : ¬ (0 : Int) ≤ b := by omega
    have a1 : ¬ (C.f1 : Int) ≤ b := by omega
    have a2 : ¬ (C.f2 : Int) ≤ b := by omega
    have a3 : ¬ (C.f3 : Int) ≤ b := by omega
    clear hm hb hz
    go_enter Try.func47, Try.ntmps47
    go_wp2
    refine wp_loop_rounds 5 ?_
    rw [rounds_succ]; go_wp2
    rw [rounds_succ]; go_wp2
    rw [rounds_succ]; go_wp2
    rw [rounds_succ]; go_wp2
    rw [rounds_succ]; go_wp2
    go_ret
    exact ⟨rfl, rfl⟩
  · have a0 : (0 : Int) ≤ b := by omega
    have c0 : ¬ b < (C.f1 : Int) := by omega
    have a1 : (C.f1 : Int) ≤ b := by omega
    have c1 : ¬ b < (C.f2 : Int) := by omega
    have a2 : (C.f2 : Int) ≤ b := by omega
    have c2 : ¬ b < (C.f3 : Int) := by omega
    have a3 : (C.f3 : Int) ≤ b := by omega
    have c3 : ¬ b < (C.all : Int) := by omega
    clear hm hb hz
    go_enter Try.func47, Try.ntmps47
    go_wp2
    refine wp_loop_rounds 5 ?_
    rw [rounds_succ]; go_wp2
    rw [rounds_succ]; go_wp2
    rw [rounds_succ]; go_wp2
    rw [rounds_succ]; go_wp2
    rw [rounds_succ]; go_wp2
    go_ret
    exact ⟨rfl, rfl⟩

end Go.Proofs.Ytfihaaciaobolaa
