/-
  The document's twin of layout: Class, At, Pages. No conditions but what is in memory.
-/
import Derived.Test.YtihfejbkojhkaaaR63
import Derived.Test.YtihfejbkojhkaaaLay5
namespace Go.Proofs.Ytihfejbkojhkaaa
open Go.RowKit Go.Flo Go.Bit
set_option maxRecDepth 100000

theorem rpages_l {w : World} {g : Nat} {A : Option Addr} {cap : Nat} {C : Cf} (h : RLy w g A cap C) (ok : C.Ok) : Calls Try.prog 19 #[.pointer (some ⟨g, 0, none⟩)] w fun e w' => e = .returned (.int .i64 ((C.all + 7) / 8 : Nat)) ∧ w = w' := by
  have b1 := ok.all_le
  have q18 := (Blk.cell h 18).trans (show _ = some (Value.int .i64 C.all) from rfl)
  clear h
  obtain ⟨q, hq⟩ : ∃ q : Nat, q = (C.all + 7) / 8 := ⟨_, rfl⟩
  have hq2 : (((C.all : Int) + 8 - 1) / 8) = (q : Int) := by omega
  rw [← hq]
  go_enter Try.func19, Try.ntmps19
  go_wp2
  go_ret
  exact ⟨ret_i64 (by omega), rfl⟩

theorem rclass_0 {w : World} {g : Nat} {A : Option Addr} {cap : Nat} {C : Cf} (h : RLy w g A cap C) (b : Nat) (h1 : (0 : Nat) ≤ b) (h2 : b < C.f1) : Calls Try.prog 25 #[.pointer (some ⟨g, 0, none⟩), .int .i64 b] w fun e w' => e = .returned (.int .i64 0) ∧ w = w' := by
  have hm := C.mono
  have c0 : b < C.f1 := by omega
  have q14 := (Blk.cell h 14).trans (show _ = some (Value.int .i64 0) from rfl)
  have q15 := (Blk.cell h 15).trans (show _ = some (Value.int .i64 C.f1) from rfl)
  have q16 := (Blk.cell h 16).trans (show _ = some (Value.int .i64 C.f2) from rfl)
  have q17 := (Blk.cell h 17).trans (show _ = some (Value.int .i64 C.f3) from rfl)
  have q18 := (Blk.cell h 18).trans (show _ = some (Value.int .i64 C.all) from rfl)
  clear h hm h1 h2
  go_enter Try.func25, Try.ntmps25
  go_wp2
  refine wp_loop_rounds 1 ?_
  rw [rounds_succ]; go_wp2
  go_ret
  exact ⟨rfl, rfl⟩

theorem rclass_1 {w : World} {g : Nat} {A : Option Addr} {cap : Nat} {C : Cf} (h : RLy w g A cap C) (b : Nat) (h1 : C.f1 ≤ b) (h2 : b < C.f2) : Calls Try.prog 25 #[.pointer (some ⟨g, 0, none⟩), .int .i64 b] w fun e w' => e = .returned (.int .i64 1) ∧ w = w' := by
  have hm := C.mono
  have c0 : ¬ b < C.f1 := by omega
  have a1 : C.f1 ≤ b := by omega
  have c1 : b < C.f2 := by omega
  have q14 := (Blk.cell h 14).trans (show _ = some (Value.int .i64 0) from rfl)
  have q15 := (Blk.cell h 15).trans (show _ = some (Value.int .i64 C.f1) from rfl)
  have q16 := (Blk.cell h 16).trans (show _ = some (Value.int .i64 C.f2) from rfl)
  have q17 := (Blk.cell h 17).trans (show _ = some (Value.int .i64 C.f3) from rfl)
  have q18 := (Blk.cell h 18).trans (show _ = some (Value.int .i64 C.all) from rfl)
  clear h hm h1 h2
  go_enter Try.func25, Try.ntmps25
  go_wp2
  refine wp_loop_rounds 2 ?_
  rw [rounds_succ]; go_wp2
  rw [rounds_succ]; go_wp2
  go_ret
  exact ⟨rfl, rfl⟩

theorem rclass_2 {w : World} {g : Nat} {A : Option Addr} {cap : Nat} {C : Cf} (h : RLy w g A cap C) (b : Nat) (h1 : C.f2 ≤ b) (h2 : b < C.f3) : Calls Try.prog 25 #[.pointer (some ⟨g, 0, none⟩), .int .i64 b] w fun e w' => e = .returned (.int .i64 2) ∧ w = w' := by
  have hm := C.mono
  have c0 : ¬ b < C.f1 := by omega
  have a1 : C.f1 ≤ b := by omega
  have c1 : ¬ b < C.f2 := by omega
  have a2 : C.f2 ≤ b := by omega
  have c2 : b < C.f3 := by omega
  have q14 := (Blk.cell h 14).trans (show _ = some (Value.int .i64 0) from rfl)
  have q15 := (Blk.cell h 15).trans (show _ = some (Value.int .i64 C.f1) from rfl)
  have q16 := (Blk.cell h 16).trans (show _ = some (Value.int .i64 C.f2) from rfl)
  have q17 := (Blk.cell h 17).trans (show _ = some (Value.int .i64 C.f3) from rfl)
  have q18 := (Blk.cell h 18).trans (show _ = some (Value.int .i64 C.all) from rfl)
  clear h hm h1 h2
  go_enter Try.func25, Try.ntmps25
  go_wp2
  refine wp_loop_rounds 3 ?_
  rw [rounds_succ]; go_wp2
  rw [rounds_succ]; go_wp2
  rw [rounds_succ]; go_wp2
  go_ret
  exact ⟨rfl, rfl⟩

theorem rclass_3 {w : World} {g : Nat} {A : Option Addr} {cap : Nat} {C : Cf} (h : RLy w g A cap C) (b : Nat) (h1 : C.f3 ≤ b) (h2 : b < C.all) : Calls Try.prog 25 #[.pointer (some ⟨g, 0, none⟩), .int .i64 b] w fun e w' => e = .returned (.int .i64 3) ∧ w = w' := by
  have hm := C.mono
  have c0 : ¬ b < C.f1 := by omega
  have a1 : C.f1 ≤ b := by omega
  have c1 : ¬ b < C.f2 := by omega
  have a2 : C.f2 ≤ b := by omega
  have c2 : ¬ b < C.f3 := by omega
  have a3 : C.f3 ≤ b := by omega
  have c3 : b < C.all := by omega
  have q14 := (Blk.cell h 14).trans (show _ = some (Value.int .i64 0) from rfl)
  have q15 := (Blk.cell h 15).trans (show _ = some (Value.int .i64 C.f1) from rfl)
  have q16 := (Blk.cell h 16).trans (show _ = some (Value.int .i64 C.f2) from rfl)
  have q17 := (Blk.cell h 17).trans (show _ = some (Value.int .i64 C.f3) from rfl)
  have q18 := (Blk.cell h 18).trans (show _ = some (Value.int .i64 C.all) from rfl)
  clear h hm h1 h2
  go_enter Try.func25, Try.ntmps25
  go_wp2
  refine wp_loop_rounds 4 ?_
  rw [rounds_succ]; go_wp2
  rw [rounds_succ]; go_wp2
  rw [rounds_succ]; go_wp2
  rw [rounds_succ]; go_wp2
  go_ret
  exact ⟨rfl, rfl⟩

theorem rclass_yes {w : World} {g : Nat} {A : Option Addr} {cap : Nat} {C : Cf} (h : RLy w g A cap C) (b : Nat) (hlt : b < C.all) : Calls Try.prog 25 #[.pointer (some ⟨g, 0, none⟩), .int .i64 b] w fun e w' => e = .returned (.int .i64 (C.cls b : Nat)) ∧ w = w' := by
  by_cases h1 : b < C.f1
  · rw [show C.cls b = 0 by unfold Cf.cls; simp [h1]]
    exact rclass_0 h b (by omega) h1
  · by_cases h2 : b < C.f2
    · rw [show C.cls b = 1 by unfold Cf.cls; simp [h1, h2]]
      exact rclass_1 h b (by omega) h2
    · by_cases h3 : b < C.f3
      · rw [show C.cls b = 2 by unfold Cf.cls; simp [h1, h2, h3]]
        exact rclass_2 h b (by omega) h3
      · rw [show C.cls b = 3 by unfold Cf.cls; simp [h1, h2, h3]]
        exact rclass_3 h b (by omega) hlt
theorem rclass_no {w : World} {g : Nat} {A : Option Addr} {cap : Nat} {C : Cf} (h : RLy w g A cap C) (b : Int) (hb : b < 0 ∨ C.all ≤ b) : Calls Try.prog 25 #[.pointer (some ⟨g, 0, none⟩), .int .i64 b] w fun e w' => e = .returned (.int .i64 (-1)) ∧ w = w' := by
  have hm := C.mono
  have q14 := (Blk.cell h 14).trans (show _ = some (Value.int .i64 0) from rfl)
  have q15 := (Blk.cell h 15).trans (show _ = some (Value.int .i64 C.f1) from rfl)
  have q16 := (Blk.cell h 16).trans (show _ = some (Value.int .i64 C.f2) from rfl)
  have q17 := (Blk.cell h 17).trans (show _ = some (Value.int .i64 C.f3) from rfl)
  have q18 := (Blk.cell h 18).trans (show _ = some (Value.int .i64 C.all) from rfl)
  clear h
  by_cases hz : b < 0
  · have a0 : ¬ (0 : Int) ≤ b := by omega
    have a1 : ¬ (C.f1 : Int) ≤ b := by omega
    have a2 : ¬ (C.f2 : Int) ≤ b := by omega
    have a3 : ¬ (C.f3 : Int) ≤ b := by omega
    clear hm hb hz
    go_enter Try.func25, Try.ntmps25
    go_wp2
    refine wp_loop_rounds 5 ?_
    rw [rounds_succ]; go_wp2
    rw [rounds_succ]; go_wp2
    rw [rounds_succ]; go_wp2
    rw [rounds_succ]; go_wp2
    rw [rounds_succ]; go_wp2
    go_ret
    exact ⟨rfl, rfl⟩
  · have a0 : (0 : Int) ≤ b := by omega
    have c0 : ¬ b < (C.f1 : Int) := by omega
    have a1 : (C.f1 : Int) ≤ b := by omega
    have c1 : ¬ b < (C.f2 : Int) := by omega
    have a2 : (C.f2 : Int) ≤ b := by omega
    have c2 : ¬ b < (C.f3 : Int) := by omega
    have a3 : (C.f3 : Int) ≤ b := by omega
    have c3 : ¬ b < (C.all : Int) := by omega
    clear hm hb hz
    go_enter Try.func25, Try.ntmps25
    go_wp2
    refine wp_loop_rounds 5 ?_
    rw [rounds_succ]; go_wp2
    rw [rounds_succ]; go_wp2
    rw [rounds_succ]; go_wp2
    rw [rounds_succ]; go_wp2
    rw [rounds_succ]; go_wp2
    go_ret
    exact ⟨rfl, rfl⟩

set_option maxHeartbeats 1000000 in
theorem rat_0 {w : World} {g : Nat} {A : Option Addr} {cap : Nat} {C : Cf} (h : RLy w g A cap C) (ok : C.Ok) (b : Nat) (hlt : b < C.all) (hc : C.cls b = 0) (hf : (0 : Nat) ≤ b) : Calls Try.prog 30 #[.pointer (some ⟨g, 0, none⟩), .int .i64 b] w fun e w' => e = .returned (.int .i64 (C.s0 + (b - (0 : Nat)) * 2 : Nat)) ∧ Dr w w' := by
  have hcl := rclass_yes h b hlt
  rw [hc] at hcl
  have e0 := ok.s0_eq
  have b1 := ok.log_le
  have b2 := ok.lg
  have b3 := ok.b0
  have b4 := ok.b1
  have b5 := ok.b2
  have b6 := ok.all_le
  have b7 := ok.s0_le
  have HE := Lib.hid (show C.s0 + (b - (0 : Nat)) * 2 = C.log + C.lg + (b - (0 : Nat)) * 2 by omega)
  have q1 := (Blk.cell h 1).trans (show _ = some (Value.int .i64 C.b0) from rfl)
  have q2 := (Blk.cell h 2).trans (show _ = some (Value.int .i64 C.b1) from rfl)
  have q3 := (Blk.cell h 3).trans (show _ = some (Value.int .i64 C.b2) from rfl)
  have q13 := (Blk.cell h 13).trans (show _ = some (Value.int .i64 ((C.log : Int) + C.lg)) from rfl)
  have q14 := (Blk.cell h 14).trans (show _ = some (Value.int .i64 0) from rfl)
  have q15 := (Blk.cell h 15).trans (show _ = some (Value.int .i64 C.f1) from rfl)
  have q16 := (Blk.cell h 16).trans (show _ = some (Value.int .i64 C.f2) from rfl)
  have q17 := (Blk.cell h 17).trans (show _ = some (Value.int .i64 C.f3) from rfl)
  have q18 := (Blk.cell h 18).trans (show _ = some (Value.int .i64 C.all) from rfl)
  have z0 : ∀ W, Calls Try.prog 26 #[.int .i64 0] W fun e w' => e = .returned (.int .i64 2) ∧ W = w' := fun W => rsize_any 0 (by omega) W
  have z1 : ∀ W, Calls Try.prog 26 #[.int .i64 1] W fun e w' => e = .returned (.int .i64 4) ∧ W = w' := fun W => rsize_any 1 (by omega) W
  have z2 : ∀ W, Calls Try.prog 26 #[.int .i64 2] W fun e w' => e = .returned (.int .i64 8) ∧ W = w' := fun W => rsize_any 2 (by omega) W
  have z3 : ∀ W, Calls Try.prog 26 #[.int .i64 3] W fun e w' => e = .returned (.int .i64 16) ∧ W = w' := fun W => rsize_any 3 (by omega) W
  have HH := Lib.hid h
  clear h e0 hc b7
  go_enter Try.func30, Try.ntmps30
  go_wp2_with fail
  (with_reducible refine hcl.mono ?_)
  rintro e w' ⟨rfl, rfl⟩
  go_wp2
  refine wp_loop_rounds 1 ?_
  rw [rounds_succ]; go_wp2_with fail
  go_quiet ((go_at_call 26; refine quiet_same (z0 _)))
  go_wp2
  go_ret
  refine ⟨ret_i64 ?_, ?_⟩
  · rw [HE.out]; omega
  · exact Dr.drewN _ _

set_option maxHeartbeats 1000000 in
theorem rat_1 {w : World} {g : Nat} {A : Option Addr} {cap : Nat} {C : Cf} (h : RLy w g A cap C) (ok : C.Ok) (b : Nat) (hlt : b < C.all) (hc : C.cls b = 1) (hf : C.f1 ≤ b) : Calls Try.prog 30 #[.pointer (some ⟨g, 0, none⟩), .int .i64 b] w fun e w' => e = .returned (.int .i64 (C.s1 + (b - C.f1) * 4 : Nat)) ∧ Dr w w' := by
  have hcl := rclass_yes h b hlt
  rw [hc] at hcl
  have e0 := ok.s0_eq
  have b1 := ok.log_le
  have b2 := ok.lg
  have b3 := ok.b0
  have b4 := ok.b1
  have b5 := ok.b2
  have b6 := ok.all_le
  have b7 := ok.s0_le
  have HE := Lib.hid (show C.s1 + (b - C.f1) * 4 = C.log + C.lg + C.b0 * 2 + (b - C.f1) * 4 by unfold Cf.s1; omega)
  have q1 := (Blk.cell h 1).trans (show _ = some (Value.int .i64 C.b0) from rfl)
  have q2 := (Blk.cell h 2).trans (show _ = some (Value.int .i64 C.b1) from rfl)
  have q3 := (Blk.cell h 3).trans (show _ = some (Value.int .i64 C.b2) from rfl)
  have q13 := (Blk.cell h 13).trans (show _ = some (Value.int .i64 ((C.log : Int) + C.lg)) from rfl)
  have q14 := (Blk.cell h 14).trans (show _ = some (Value.int .i64 0) from rfl)
  have q15 := (Blk.cell h 15).trans (show _ = some (Value.int .i64 C.f1) from rfl)
  have q16 := (Blk.cell h 16).trans (show _ = some (Value.int .i64 C.f2) from rfl)
  have q17 := (Blk.cell h 17).trans (show _ = some (Value.int .i64 C.f3) from rfl)
  have q18 := (Blk.cell h 18).trans (show _ = some (Value.int .i64 C.all) from rfl)
  have z0 : ∀ W, Calls Try.prog 26 #[.int .i64 0] W fun e w' => e = .returned (.int .i64 2) ∧ W = w' := fun W => rsize_any 0 (by omega) W
  have z1 : ∀ W, Calls Try.prog 26 #[.int .i64 1] W fun e w' => e = .returned (.int .i64 4) ∧ W = w' := fun W => rsize_any 1 (by omega) W
  have z2 : ∀ W, Calls Try.prog 26 #[.int .i64 2] W fun e w' => e = .returned (.int .i64 8) ∧ W = w' := fun W => rsize_any 2 (by omega) W
  have z3 : ∀ W, Calls Try.prog 26 #[.int .i64 3] W fun e w' => e = .returned (.int .i64 16) ∧ W = w' := fun W => rsize_any 3 (by omega) W
  have HH := Lib.hid h
  clear h e0 hc b7
  go_enter Try.func30, Try.ntmps30
  go_wp2_with fail
  (with_reducible refine hcl.mono ?_)
  rintro e w' ⟨rfl, rfl⟩
  go_wp2
  refine wp_loop_rounds 2 ?_
  rw [rounds_succ]; go_wp2_with fail
  go_quiet ((go_at_call 26; refine quiet_same (z0 _)))
  have D1 : Dr w (w.drewN nq) := Dr.drewN _ _
  clear q1 q2 q3 q13 q14 q15 q16 q17 q18
  generalize w.drewN nq = w1 at *
  have q1 := (Blk.cell (RLy.keep HH.out D1.keep) 1).trans (show _ = some (Value.int .i64 C.b0) from rfl)
  have q2 := (Blk.cell (RLy.keep HH.out D1.keep) 2).trans (show _ = some (Value.int .i64 C.b1) from rfl)
  have q3 := (Blk.cell (RLy.keep HH.out D1.keep) 3).trans (show _ = some (Value.int .i64 C.b2) from rfl)
  have q13 := (Blk.cell (RLy.keep HH.out D1.keep) 13).trans (show _ = some (Value.int .i64 ((C.log : Int) + C.lg)) from rfl)
  have q14 := (Blk.cell (RLy.keep HH.out D1.keep) 14).trans (show _ = some (Value.int .i64 0) from rfl)
  have q15 := (Blk.cell (RLy.keep HH.out D1.keep) 15).trans (show _ = some (Value.int .i64 C.f1) from rfl)
  have q16 := (Blk.cell (RLy.keep HH.out D1.keep) 16).trans (show _ = some (Value.int .i64 C.f2) from rfl)
  have q17 := (Blk.cell (RLy.keep HH.out D1.keep) 17).trans (show _ = some (Value.int .i64 C.f3) from rfl)
  have q18 := (Blk.cell (RLy.keep HH.out D1.keep) 18).trans (show _ = some (Value.int .i64 C.all) from rfl)
  go_wp2
  rw [rounds_succ]; go_wp2_with fail
  go_quiet ((go_at_call 26; refine quiet_same (z1 _)))
  go_wp2
  go_ret
  refine ⟨ret_i64 ?_, ?_⟩
  · rw [HE.out]; omega
  · exact D1.trans (Dr.drewN _ _)

set_option maxHeartbeats 1000000 in
theorem rat_2 {w : World} {g : Nat} {A : Option Addr} {cap : Nat} {C : Cf} (h : RLy w g A cap C) (ok : C.Ok) (b : Nat) (hlt : b < C.all) (hc : C.cls b = 2) (hf : C.f2 ≤ b) : Calls Try.prog 30 #[.pointer (some ⟨g, 0, none⟩), .int .i64 b] w fun e w' => e = .returned (.int .i64 (C.s2 + (b - C.f2) * 8 : Nat)) ∧ Dr w w' := by
  have hcl := rclass_yes h b hlt
  rw [hc] at hcl
  have e0 := ok.s0_eq
  have b1 := ok.log_le
  have b2 := ok.lg
  have b3 := ok.b0
  have b4 := ok.b1
  have b5 := ok.b2
  have b6 := ok.all_le
  have b7 := ok.s0_le
  have HE := Lib.hid (show C.s2 + (b - C.f2) * 8 = C.log + C.lg + C.b0 * 2 + C.b1 * 4 + (b - C.f2) * 8 by unfold Cf.s2; unfold Cf.s1; omega)
  have q1 := (Blk.cell h 1).trans (show _ = some (Value.int .i64 C.b0) from rfl)
  have q2 := (Blk.cell h 2).trans (show _ = some (Value.int .i64 C.b1) from rfl)
  have q3 := (Blk.cell h 3).trans (show _ = some (Value.int .i64 C.b2) from rfl)
  have q13 := (Blk.cell h 13).trans (show _ = some (Value.int .i64 ((C.log : Int) + C.lg)) from rfl)
  have q14 := (Blk.cell h 14).trans (show _ = some (Value.int .i64 0) from rfl)
  have q15 := (Blk.cell h 15).trans (show _ = some (Value.int .i64 C.f1) from rfl)
  have q16 := (Blk.cell h 16).trans (show _ = some (Value.int .i64 C.f2) from rfl)
  have q17 := (Blk.cell h 17).trans (show _ = some (Value.int .i64 C.f3) from rfl)
  have q18 := (Blk.cell h 18).trans (show _ = some (Value.int .i64 C.all) from rfl)
  have z0 : ∀ W, Calls Try.prog 26 #[.int .i64 0] W fun e w' => e = .returned (.int .i64 2) ∧ W = w' := fun W => rsize_any 0 (by omega) W
  have z1 : ∀ W, Calls Try.prog 26 #[.int .i64 1] W fun e w' => e = .returned (.int .i64 4) ∧ W = w' := fun W => rsize_any 1 (by omega) W
  have z2 : ∀ W, Calls Try.prog 26 #[.int .i64 2] W fun e w' => e = .returned (.int .i64 8) ∧ W = w' := fun W => rsize_any 2 (by omega) W
  have z3 : ∀ W, Calls Try.prog 26 #[.int .i64 3] W fun e w' => e = .returned (.int .i64 16) ∧ W = w' := fun W => rsize_any 3 (by omega) W
  have HH := Lib.hid h
  clear h e0 hc b7
  go_enter Try.func30, Try.ntmps30
  go_wp2_with fail
  (with_reducible refine hcl.mono ?_)
  rintro e w' ⟨rfl, rfl⟩
  go_wp2
  refine wp_loop_rounds 3 ?_
  rw [rounds_succ]; go_wp2_with fail
  go_quiet ((go_at_call 26; refine quiet_same (z0 _)))
  have D1 : Dr w (w.drewN nq) := Dr.drewN _ _
  clear q1 q2 q3 q13 q14 q15 q16 q17 q18
  generalize w.drewN nq = w1 at *
  have q1 := (Blk.cell (RLy.keep HH.out D1.keep) 1).trans (show _ = some (Value.int .i64 C.b0) from rfl)
  have q2 := (Blk.cell (RLy.keep HH.out D1.keep) 2).trans (show _ = some (Value.int .i64 C.b1) from rfl)
  have q3 := (Blk.cell (RLy.keep HH.out D1.keep) 3).trans (show _ = some (Value.int .i64 C.b2) from rfl)
  have q13 := (Blk.cell (RLy.keep HH.out D1.keep) 13).trans (show _ = some (Value.int .i64 ((C.log : Int) + C.lg)) from rfl)
  have q14 := (Blk.cell (RLy.keep HH.out D1.keep) 14).trans (show _ = some (Value.int .i64 0) from rfl)
  have q15 := (Blk.cell (RLy.keep HH.out D1.keep) 15).trans (show _ = some (Value.int .i64 C.f1) from rfl)
  have q16 := (Blk.cell (RLy.keep HH.out D1.keep) 16).trans (show _ = some (Value.int .i64 C.f2) from rfl)
  have q17 := (Blk.cell (RLy.keep HH.out D1.keep) 17).trans (show _ = some (Value.int .i64 C.f3) from rfl)
  have q18 := (Blk.cell (RLy.keep HH.out D1.keep) 18).trans (show _ = some (Value.int .i64 C.all) from rfl)
  go_wp2
  rw [rounds_succ]; go_wp2_with fail
  go_quiet ((go_at_call 26; refine quiet_same (z1 _)))
  have D2 : Dr w (w1.drewN nq) := D1.trans (Dr.drewN _ _)
  clear q1 q2 q3 q13 q14 q15 q16 q17 q18
  generalize w1.drewN nq = w2 at *
  have q1 := (Blk.cell (RLy.keep HH.out D2.keep) 1).trans (show _ = some (Value.int .i64 C.b0) from rfl)
  have q2 := (Blk.cell (RLy.keep HH.out D2.keep) 2).trans (show _ = some (Value.int .i64 C.b1) from rfl)
  have q3 := (Blk.cell (RLy.keep HH.out D2.keep) 3).trans (show _ = some (Value.int .i64 C.b2) from rfl)
  have q13 := (Blk.cell (RLy.keep HH.out D2.keep) 13).trans (show _ = some (Value.int .i64 ((C.log : Int) + C.lg)) from rfl)
  have q14 := (Blk.cell (RLy.keep HH.out D2.keep) 14).trans (show _ = some (Value.int .i64 0) from rfl)
  have q15 := (Blk.cell (RLy.keep HH.out D2.keep) 15).trans (show _ = some (Value.int .i64 C.f1) from rfl)
  have q16 := (Blk.cell (RLy.keep HH.out D2.keep) 16).trans (show _ = some (Value.int .i64 C.f2) from rfl)
  have q17 := (Blk.cell (RLy.keep HH.out D2.keep) 17).trans (show _ = some (Value.int .i64 C.f3) from rfl)
  have q18 := (Blk.cell (RLy.keep HH.out D2.keep) 18).trans (show _ = some (Value.int .i64 C.all) from rfl)
  go_wp2
  rw [rounds_succ]; go_wp2_with fail
  go_quiet ((go_at_call 26; refine quiet_same (z2 _)))
  go_wp2
  go_ret
  refine ⟨ret_i64 ?_, ?_⟩
  · rw [HE.out]; omega
  · exact D2.trans (Dr.drewN _ _)

set_option maxHeartbeats 1000000 in
theorem rat_3 {w : World} {g : Nat} {A : Option Addr} {cap : Nat} {C : Cf} (h : RLy w g A cap C) (ok : C.Ok) (b : Nat) (hlt : b < C.all) (hc : C.cls b = 3) (hf : C.f3 ≤ b) : Calls Try.prog 30 #[.pointer (some ⟨g, 0, none⟩), .int .i64 b] w fun e w' => e = .returned (.int .i64 (C.s3 + (b - C.f3) * 16 : Nat)) ∧ Dr w w' := by
  have hcl := rclass_yes h b hlt
  rw [hc] at hcl
  have e0 := ok.s0_eq
  have b1 := ok.log_le
  have b2 := ok.lg
  have b3 := ok.b0
  have b4 := ok.b1
  have b5 := ok.b2
  have b6 := ok.all_le
  have b7 := ok.s0_le
  have HE := Lib.hid (show C.s3 + (b - C.f3) * 16 = C.log + C.lg + C.b0 * 2 + C.b1 * 4 + C.b2 * 8 + (b - C.f3) * 16 by unfold Cf.s3; unfold Cf.s2; unfold Cf.s1; omega)
  have q1 := (Blk.cell h 1).trans (show _ = some (Value.int .i64 C.b0) from rfl)
  have q2 := (Blk.cell h 2).trans (show _ = some (Value.int .i64 C.b1) from rfl)
  have q3 := (Blk.cell h 3).trans (show _ = some (Value.int .i64 C.b2) from rfl)
  have q13 := (Blk.cell h 13).trans (show _ = some (Value.int .i64 ((C.log : Int) + C.lg)) from rfl)
  have q14 := (Blk.cell h 14).trans (show _ = some (Value.int .i64 0) from rfl)
  have q15 := (Blk.cell h 15).trans (show _ = some (Value.int .i64 C.f1) from rfl)
  have q16 := (Blk.cell h 16).trans (show _ = some (Value.int .i64 C.f2) from rfl)
  have q17 := (Blk.cell h 17).trans (show _ = some (Value.int .i64 C.f3) from rfl)
  have q18 := (Blk.cell h 18).trans (show _ = some (Value.int .i64 C.all) from rfl)
  have z0 : ∀ W, Calls Try.prog 26 #[.int .i64 0] W fun e w' => e = .returned (.int .i64 2) ∧ W = w' := fun W => rsize_any 0 (by omega) W
  have z1 : ∀ W, Calls Try.prog 26 #[.int .i64 1] W fun e w' => e = .returned (.int .i64 4) ∧ W = w' := fun W => rsize_any 1 (by omega) W
  have z2 : ∀ W, Calls Try.prog 26 #[.int .i64 2] W fun e w' => e = .returned (.int .i64 8) ∧ W = w' := fun W => rsize_any 2 (by omega) W
  have z3 : ∀ W, Calls Try.prog 26 #[.int .i64 3] W fun e w' => e = .returned (.int .i64 16) ∧ W = w' := fun W => rsize_any 3 (by omega) W
  have HH := Lib.hid h
  clear h e0 hc b7
  go_enter Try.func30, Try.ntmps30
  go_wp2_with fail
  (with_reducible refine hcl.mono ?_)
  rintro e w' ⟨rfl, rfl⟩
  go_wp2
  refine wp_loop_rounds 4 ?_
  rw [rounds_succ]; go_wp2_with fail
  go_quiet ((go_at_call 26; refine quiet_same (z0 _)))
  have D1 : Dr w (w.drewN nq) := Dr.drewN _ _
  clear q1 q2 q3 q13 q14 q15 q16 q17 q18
  generalize w.drewN nq = w1 at *
  have q1 := (Blk.cell (RLy.keep HH.out D1.keep) 1).trans (show _ = some (Value.int .i64 C.b0) from rfl)
  have q2 := (Blk.cell (RLy.keep HH.out D1.keep) 2).trans (show _ = some (Value.int .i64 C.b1) from rfl)
  have q3 := (Blk.cell (RLy.keep HH.out D1.keep) 3).trans (show _ = some (Value.int .i64 C.b2) from rfl)
  have q13 := (Blk.cell (RLy.keep HH.out D1.keep) 13).trans (show _ = some (Value.int .i64 ((C.log : Int) + C.lg)) from rfl)
  have q14 := (Blk.cell (RLy.keep HH.out D1.keep) 14).trans (show _ = some (Value.int .i64 0) from rfl)
  have q15 := (Blk.cell (RLy.keep HH.out D1.keep) 15).trans (show _ = some (Value.int .i64 C.f1) from rfl)
  have q16 := (Blk.cell (RLy.keep HH.out D1.keep) 16).trans (show _ = some (Value.int .i64 C.f2) from rfl)
  have q17 := (Blk.cell (RLy.keep HH.out D1.keep) 17).trans (show _ = some (Value.int .i64 C.f3) from rfl)
  have q18 := (Blk.cell (RLy.keep HH.out D1.keep) 18).trans (show _ = some (Value.int .i64 C.all) from rfl)
  go_wp2
  rw [rounds_succ]; go_wp2_with fail
  go_quiet ((go_at_call 26; refine quiet_same (z1 _)))
  have D2 : Dr w (w1.drewN nq) := D1.trans (Dr.drewN _ _)
  clear q1 q2 q3 q13 q14 q15 q16 q17 q18
  generalize w1.drewN nq = w2 at *
  have q1 := (Blk.cell (RLy.keep HH.out D2.keep) 1).trans (show _ = some (Value.int .i64 C.b0) from rfl)
  have q2 := (Blk.cell (RLy.keep HH.out D2.keep) 2).trans (show _ = some (Value.int .i64 C.b1) from rfl)
  have q3 := (Blk.cell (RLy.keep HH.out D2.keep) 3).trans (show _ = some (Value.int .i64 C.b2) from rfl)
  have q13 := (Blk.cell (RLy.keep HH.out D2.keep) 13).trans (show _ = some (Value.int .i64 ((C.log : Int) + C.lg)) from rfl)
  have q14 := (Blk.cell (RLy.keep HH.out D2.keep) 14).trans (show _ = some (Value.int .i64 0) from rfl)
  have q15 := (Blk.cell (RLy.keep HH.out D2.keep) 15).trans (show _ = some (Value.int .i64 C.f1) from rfl)
  have q16 := (Blk.cell (RLy.keep HH.out D2.keep) 16).trans (show _ = some (Value.int .i64 C.f2) from rfl)
  have q17 := (Blk.cell (RLy.keep HH.out D2.keep) 17).trans (show _ = some (Value.int .i64 C.f3) from rfl)
  have q18 := (Blk.cell (RLy.keep HH.out D2.keep) 18).trans (show _ = some (Value.int .i64 C.all) from rfl)
  go_wp2
  rw [rounds_succ]; go_wp2_with fail
  go_quiet ((go_at_call 26; refine quiet_same (z2 _)))
  have D3 : Dr w (w2.drewN nq) := D2.trans (Dr.drewN _ _)
  clear q1 q2 q3 q13 q14 q15 q16 q17 q18
  generalize w2.drewN nq = w3 at *
  have q1 := (Blk.cell (RLy.keep HH.out D3.keep) 1).trans (show _ = some (Value.int .i64 C.b0) from rfl)
  have q2 := (Blk.cell (RLy.keep HH.out D3.keep) 2).trans (show _ = some (Value.int .i64 C.b1) from rfl)
  have q3 := (Blk.cell (RLy.keep HH.out D3.keep) 3).trans (show _ = some (Value.int .i64 C.b2) from rfl)
  have q13 := (Blk.cell (RLy.keep HH.out D3.keep) 13).trans (show _ = some (Value.int .i64 ((C.log : Int) + C.lg)) from rfl)
  have q14 := (Blk.cell (RLy.keep HH.out D3.keep) 14).trans (show _ = some (Value.int .i64 0) from rfl)
  have q15 := (Blk.cell (RLy.keep HH.out D3.keep) 15).trans (show _ = some (Value.int .i64 C.f1) from rfl)
  have q16 := (Blk.cell (RLy.keep HH.out D3.keep) 16).trans (show _ = some (Value.int .i64 C.f2) from rfl)
  have q17 := (Blk.cell (RLy.keep HH.out D3.keep) 17).trans (show _ = some (Value.int .i64 C.f3) from rfl)
  have q18 := (Blk.cell (RLy.keep HH.out D3.keep) 18).trans (show _ = some (Value.int .i64 C.all) from rfl)
  go_wp2
  rw [rounds_succ]; go_wp2_with fail
  go_quiet ((go_at_call 26; refine quiet_same (z3 _)))
  go_wp2
  go_ret
  refine ⟨ret_i64 ?_, ?_⟩
  · rw [HE.out]; omega
  · exact D3.trans (Dr.drewN _ _)

theorem rat_yes {w : World} {g : Nat} {A : Option Addr} {cap : Nat} {C : Cf} (h : RLy w g A cap C) (ok : C.Ok) (b : Nat) (hlt : b < C.all) : Calls Try.prog 30 #[.pointer (some ⟨g, 0, none⟩), .int .i64 b] w fun e w' => e = .returned (.int .i64 (C.at_ b : Nat)) ∧ Dr w w' := by
  by_cases h1 : b < C.f1
  · rw [show C.at_ b = C.s0 + (b - (0 : Nat)) * 2 by unfold Cf.at_; simp [h1]]
    exact rat_0 h ok b hlt (by unfold Cf.cls; simp [h1]) (by omega)
  · by_cases h2 : b < C.f2
    · rw [show C.at_ b = C.s1 + (b - C.f1) * 4 by unfold Cf.at_; simp [h1, h2]]
      exact rat_1 h ok b hlt (by unfold Cf.cls; simp [h1, h2]) (by omega)
    · by_cases h3 : b < C.f3
      · rw [show C.at_ b = C.s2 + (b - C.f2) * 8 by unfold Cf.at_; simp [h1, h2, h3]]
        exact rat_2 h ok b hlt (by unfold Cf.cls; simp [h1, h2, h3]) (by omega)
      · rw [show C.at_ b = C.s3 + (b - C.f3) * 16 by unfold Cf.at_; simp [h1, h2, h3]]
        exact rat_3 h ok b hlt (by unfold Cf.cls; simp [h1, h2, h3]) (by omega)
theorem rat_no {w : World} {g : Nat} {A : Option Addr} {cap : Nat} {C : Cf} (h : RLy w g A cap C) (b : Int) (hb : b < 0 ∨ C.all ≤ b) : Calls Try.prog 30 #[.pointer (some ⟨g, 0, none⟩), .int .i64 b] w fun e w' => e = .returned (.int .i64 (-1)) ∧ w = w' := by
  have hcl := rclass_no h b hb
  clear hb h
  go_enter Try.func30, Try.ntmps30
  go_wp2_with fail
  (with_reducible refine hcl.mono ?_)
  rintro e w' ⟨rfl, rfl⟩
  go_wp2
  go_ret
  exact ⟨rfl, rfl⟩
end Go.Proofs.Ytihfejbkojhkaaa
