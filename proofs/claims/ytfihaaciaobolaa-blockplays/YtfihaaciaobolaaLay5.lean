/-
  Package layout: what a layout's questions return. No conditions but what a layout is.
-/
import Derived.Test.YtfihaaciaobolaaLay4
import Derived.BigQuiet
import Derived.Deep.QuietTactic
namespace Go.Proofs.Ytfihaaciaobolaa
open Go.RowKit Go.Flo Go.Bit
set_option maxRecDepth 100000

theorem blocks_l {w : World} {g : Nat} {C : Cf} {m : Nat → Nat} {f : Nat → Nat → Int} (h : Lyt w g C m f) : Calls Try.prog 35 #[.pointer (some ⟨g, 0, none⟩)] w fun e w' => e = .returned (.int .i64 C.all) ∧ w = w' := by
  obtain ⟨A, cap, hb, _⟩ := h
  have q16 := (hb.cell 16).trans (show _ = some (Value.int .i64 C.all) from rfl)
  go_enter Try.func35, Try.ntmps35
  go_wp2
  go_ret
  exact ⟨rfl, rfl⟩

theorem has_yes {w : World} {g : Nat} {C : Cf} {m : Nat → Nat} {f : Nat → Nat → Int} (h : Lyt w g C m f) (b : Nat) (hlt : b < C.all) : Calls Try.prog 51 #[.pointer (some ⟨g, 0, none⟩), .int .i64 b] w fun e w' => e = .returned (.bool true) ∧ w = w' := by
  have hl := blocks_l h
  have h1 : (0 : Int) ≤ b := by omega
  have h2 : (b : Int) < C.all := by omega
  go_enter Try.func51, Try.ntmps51
  go_wp2_with fail
  (with_reducible refine hl.mono ?_)
  rintro e w' ⟨rfl, rfl⟩
  go_wp2
  go_ret
  exact ⟨rfl, rfl⟩

theorem has_no {w : World} {g : Nat} {C : Cf} {m : Nat → Nat} {f : Nat → Nat → Int} (h : Lyt w g C m f) (b : Int) (hlt : b < 0 ∨ C.all ≤ b) : Calls Try.prog 51 #[.pointer (some ⟨g, 0, none⟩), .int .i64 b] w fun e w' => e = .returned (.bool false) ∧ w = w' := by
  have hl := blocks_l h
  by_cases h1 : 0 ≤ b
  · have h2 : decide (b < (C.all : Int)) = false := by simp; omega
    go_enter Try.func51, Try.ntmps51
    go_wp2_with fail
    (with_reducible refine hl.mono ?_)
    rintro e w' ⟨rfl, rfl⟩
    go_wp2
    go_ret
    exact ⟨rfl, rfl⟩
  · go_enter Try.func51, Try.ntmps51
    go_wp2
    go_ret
    exact ⟨rfl, rfl⟩

theorem class_0 {w : World} {g : Nat} {C : Cf} {m : Nat → Nat} {f : Nat → Nat → Int} (h : Lyt w g C m f) (b : Nat) (h1 : (0 : Nat) ≤ b) (h2 : b < C.f1) (hlt : b < C.all) (hf : C.f1 ≤ C.f2 ∧ C.f2 ≤ C.f3 ∧ C.f3 ≤ C.all) : Calls Try.prog 34 #[.pointer (some ⟨g, 0, none⟩), .int .i64 b] w fun e w' => e = .returned (.int .i64 0) ∧ w = w' := by
  have hh := has_yes h b hlt
  have t0 : ¬ ((C.f1 : Nat) : Int) ≤ b := by omega
  clear hf h1 h2
  obtain ⟨A, cap, hb, _⟩ := h
  have q13 := (hb.cell 13).trans (show _ = some (Value.int .i64 C.f1) from rfl)
  have q14 := (hb.cell 14).trans (show _ = some (Value.int .i64 C.f2) from rfl)
  have q15 := (hb.cell 15).trans (show _ = some (Value.int .i64 C.f3) from rfl)
  have q16 := (hb.cell 16).trans (show _ = some (Value.int .i64 C.all) from rfl)
  go_enter Try.func34, Try.ntmps34
  go_wp2_with fail
  (with_reducible refine hh.mono ?_)
  rintro e w' ⟨rfl, rfl⟩
  go_wp2
  refine wp_loop_rounds 1 ?_
  rw [rounds_succ]; go_wp2
  go_ret
  exact ⟨rfl, rfl⟩

theorem class_1 {w : World} {g : Nat} {C : Cf} {m : Nat → Nat} {f : Nat → Nat → Int} (h : Lyt w g C m f) (b : Nat) (h1 : C.f1 ≤ b) (h2 : b < C.f2) (hlt : b < C.all) (hf : C.f1 ≤ C.f2 ∧ C.f2 ≤ C.f3 ∧ C.f3 ≤ C.all) : Calls Try.prog 34 #[.pointer (some ⟨g, 0, none⟩), .int .i64 b] w fun e w' => e = .returned (.int .i64 1) ∧ w = w' := by
  have hh := has_yes h b hlt
  have t0 : ((C.f1 : Nat) : Int) ≤ b := by omega
  have t1 : ¬ ((C.f2 : Nat) : Int) ≤ b := by omega
  clear hf h1 h2
  obtain ⟨A, cap, hb, _⟩ := h
  have q13 := (hb.cell 13).trans (show _ = some (Value.int .i64 C.f1) from rfl)
  have q14 := (hb.cell 14).trans (show _ = some (Value.int .i64 C.f2) from rfl)
  have q15 := (hb.cell 15).trans (show _ = some (Value.int .i64 C.f3) from rfl)
  have q16 := (hb.cell 16).trans (show _ = some (Value.int .i64 C.all) from rfl)
  go_enter Try.func34, Try.ntmps34
  go_wp2_with fail
  (with_reducible refine hh.mono ?_)
  rintro e w' ⟨rfl, rfl⟩
  go_wp2
  refine wp_loop_rounds 2 ?_
  rw [rounds_succ]; go_wp2
  rw [rounds_succ]; go_wp2
  go_ret
  exact ⟨rfl, rfl⟩

theorem class_2 {w : World} {g : Nat} {C : Cf} {m : Nat → Nat} {f : Nat → Nat → Int} (h : Lyt w g C m f) (b : Nat) (h1 : C.f2 ≤ b) (h2 : b < C.f3) (hlt : b < C.all) (hf : C.f1 ≤ C.f2 ∧ C.f2 ≤ C.f3 ∧ C.f3 ≤ C.all) : Calls Try.prog 34 #[.pointer (some ⟨g, 0, none⟩), .int .i64 b] w fun e w' => e = .returned (.int .i64 2) ∧ w = w' := by
  have hh := has_yes h b hlt
  have t0 : ((C.f1 : Nat) : Int) ≤ b := by omega
  have t1 : ((C.f2 : Nat) : Int) ≤ b := by omega
  have t2 : ¬ ((C.f3 : Nat) : Int) ≤ b := by omega
  clear hf h1 h2
  obtain ⟨A, cap, hb, _⟩ := h
  have q13 := (hb.cell 13).trans (show _ = some (Value.int .i64 C.f1) from rfl)
  have q14 := (hb.cell 14).trans (show _ = some (Value.int .i64 C.f2) from rfl)
  have q15 := (hb.cell 15).trans (show _ = some (Value.int .i64 C.f3) from rfl)
  have q16 := (hb.cell 16).trans (show _ = some (Value.int .i64 C.all) from rfl)
  go_enter Try.func34, Try.ntmps34
  go_wp2_with fail
  (with_reducible refine hh.mono ?_)
  rintro e w' ⟨rfl, rfl⟩
  go_wp2
  refine wp_loop_rounds 3 ?_
  rw [rounds_succ]; go_wp2
  rw [rounds_succ]; go_wp2
  rw [rounds_succ]; go_wp2
  go_ret
  exact ⟨rfl, rfl⟩

theorem class_3 {w : World} {g : Nat} {C : Cf} {m : Nat → Nat} {f : Nat → Nat → Int} (h : Lyt w g C m f) (b : Nat) (h1 : C.f3 ≤ b) (h2 : b < C.all) (hlt : b < C.all) (hf : C.f1 ≤ C.f2 ∧ C.f2 ≤ C.f3 ∧ C.f3 ≤ C.all) : Calls Try.prog 34 #[.pointer (some ⟨g, 0, none⟩), .int .i64 b] w fun e w' => e = .returned (.int .i64 3) ∧ w = w' := by
  have hh := has_yes h b hlt
  have t0 : ((C.f1 : Nat) : Int) ≤ b := by omega
  have t1 : ((C.f2 : Nat) : Int) ≤ b := by omega
  have t2 : ((C.f3 : Nat) : Int) ≤ b := by omega
  have t3 : ¬ ((C.all : Nat) : Int) ≤ b := by omega
  clear hf h1 h2
  obtain ⟨A, cap, hb, _⟩ := h
  have q13 := (hb.cell 13).trans (show _ = some (Value.int .i64 C.f1) from rfl)
  have q14 := (hb.cell 14).trans (show _ = some (Value.int .i64 C.f2) from rfl)
  have q15 := (hb.cell 15).trans (show _ = some (Value.int .i64 C.f3) from rfl)
  have q16 := (hb.cell 16).trans (show _ = some (Value.int .i64 C.all) from rfl)
  go_enter Try.func34, Try.ntmps34
  go_wp2_with fail
  (with_reducible refine hh.mono ?_)
  rintro e w' ⟨rfl, rfl⟩
  go_wp2
  refine wp_loop_rounds 4 ?_
  rw [rounds_succ]; go_wp2
  rw [rounds_succ]; go_wp2
  rw [rounds_succ]; go_wp2
  rw [rounds_succ]; go_wp2
  go_ret
  exact ⟨rfl, rfl⟩

/-- The class of a block. -/
def _root_.Go.Flo.Cf.cls (C : Cf) (b : Nat) : Nat := if b < C.f1 then 0 else if b < C.f2 then 1 else if b < C.f3 then 2 else 3

theorem _root_.Go.Flo.Cf.cls_lt (C : Cf) (b : Nat) : C.cls b < 4 := by unfold Cf.cls; (repeat' split) <;> omega

theorem _root_.Go.Flo.Cf.mono (C : Cf) : C.f1 ≤ C.f2 ∧ C.f2 ≤ C.f3 ∧ C.f3 ≤ C.all := by unfold Cf.f1 Cf.f2 Cf.f3 Cf.all; omega

theorem class_yes {w : World} {g : Nat} {C : Cf} {m : Nat → Nat} {f : Nat → Nat → Int} (h : Lyt w g C m f) (b : Nat) (hlt : b < C.all) : Calls Try.prog 34 #[.pointer (some ⟨g, 0, none⟩), .int .i64 b] w fun e w' => e = .returned (.int .i64 (C.cls b : Nat)) ∧ w = w' := by
  have hm := C.mono
  by_cases h1 : b < C.f1
  · rw [show C.cls b = 0 by unfold Cf.cls; simp [h1]]
    exact class_0 h b (by omega) h1 hlt hm
  · by_cases h2 : b < C.f2
    · rw [show C.cls b = 1 by unfold Cf.cls; simp [h1, h2]]
      exact class_1 h b (by omega) h2 hlt hm
    · by_cases h3 : b < C.f3
      · rw [show C.cls b = 2 by unfold Cf.cls; simp [h1, h2, h3]]
        exact class_2 h b (by omega) h3 hlt hm
      · rw [show C.cls b = 3 by unfold Cf.cls; simp [h1, h2, h3]]
        exact class_3 h b (by omega) hlt hlt hm

theorem class_no {w : World} {g : Nat} {C : Cf} {m : Nat → Nat} {f : Nat → Nat → Int} (h : Lyt w g C m f) (b : Int) (hb : b < 0 ∨ C.all ≤ b) : Calls Try.prog 34 #[.pointer (some ⟨g, 0, none⟩), .int .i64 b] w fun e w' => e = .returned (.int .i64 (-1)) ∧ w = w' := by
  have hh := has_no h b hb
  clear hb
  go_enter Try.func34, Try.ntmps34
  go_wp2_with fail
  (with_reducible refine hh.mono ?_)
  rintro e w' ⟨rfl, rfl⟩
  go_wp2
  go_ret
  exact ⟨rfl, rfl⟩

theorem size_yes {w : World} {g : Nat} {C : Cf} {m : Nat → Nat} {f : Nat → Nat → Int} (h : Lyt w g C m f) (b : Nat) (hlt : b < C.all) : Calls Try.prog 33 #[.pointer (some ⟨g, 0, none⟩), .int .i64 b] w fun e w' => e = .returned (.int .i64 (2 * 2 ^ C.cls b : Nat)) ∧ w = w' := by
  have hc := class_yes h b hlt
  have hz := size_any (C.cls b) (C.cls_lt b) w
  generalize C.cls b = k at *
  have hk : ¬ (k : Int) < 0 := by omega
  clear h
  go_enter Try.func33, Try.ntmps33
  go_wp2_with fail
  (with_reducible refine hc.mono ?_)
  rintro e w' ⟨rfl, rfl⟩
  go_wp2_with fail
  (with_reducible refine hz.mono ?_)
  rintro e w' ⟨rfl, rfl⟩
  go_wp2
  go_ret
  exact ⟨rfl, rfl⟩

theorem size_no {w : World} {g : Nat} {C : Cf} {m : Nat → Nat} {f : Nat → Nat → Int} (h : Lyt w g C m f) (b : Int) (hb : b < 0 ∨ C.all ≤ b) : Calls Try.prog 33 #[.pointer (some ⟨g, 0, none⟩), .int .i64 b] w fun e w' => e = .returned (.int .i64 0) ∧ w = w' := by
  have hc := class_no h b hb
  clear hb h
  go_enter Try.func33, Try.ntmps33
  go_wp2_with fail
  (with_reducible refine hc.mono ?_)
  rintro e w' ⟨rfl, rfl⟩
  go_wp2
  go_ret
  exact ⟨rfl, rfl⟩

theorem bits_yes {w : World} {g : Nat} {C : Cf} {m : Nat → Nat} {f : Nat → Nat → Int} (h : Lyt w g C m f) (ok : C.Ok) (b : Nat) (hlt : b < C.all) : Calls Try.prog 36 #[.pointer (some ⟨g, 0, none⟩), .int .i64 b] w fun e w' => e = .returned (.int .i64 (C.bits + b / 64 : Nat)) ∧ w = w' := by
  have hh := has_yes h b hlt
  have b1 := ok.bits_le
  have b2 := ok.all_le
  obtain ⟨A, cap, hb, _⟩ := h
  have q9 := (hb.cell 9).trans (show _ = some (Value.int .i64 C.bits) from rfl)
  go_enter Try.func36, Try.ntmps36
  go_wp2_with fail
  (with_reducible refine hh.mono ?_)
  rintro e w' ⟨rfl, rfl⟩
  go_wp2
  go_ret
  exact ⟨ret_i64 (by omega), rfl⟩

theorem bits_no {w : World} {g : Nat} {C : Cf} {m : Nat → Nat} {f : Nat → Nat → Int} (h : Lyt w g C m f) (b : Int) (hb : b < 0 ∨ C.all ≤ b) : Calls Try.prog 36 #[.pointer (some ⟨g, 0, none⟩), .int .i64 b] w fun e w' => e = .returned (.int .i64 (-1)) ∧ w = w' := by
  have hh := has_no h b hb
  clear hb h
  go_enter Try.func36, Try.ntmps36
  go_wp2_with fail
  (with_reducible refine hh.mono ?_)
  rintro e w' ⟨rfl, rfl⟩
  go_wp2
  go_ret
  exact ⟨rfl, rfl⟩

theorem range_0 {w : World} {g : Nat} {C : Cf} {m : Nat → Nat} {f : Nat → Nat → Int} (h : Lyt w g C m f) : Calls Try.prog 44 #[.pointer (some ⟨g, 0, none⟩), .int .i64 0] w fun e w' => e = .returned (.tuple #[.int .i64 0, .int .i64 C.f1]) ∧ Dr w w' := by
  obtain ⟨A, cap, hb, _⟩ := h
  have q12 := (hb.cell 12).trans (show _ = some (Value.int .i64 0) from rfl)
  have q13 := (hb.cell 13).trans (show _ = some (Value.int .i64 C.f1) from rfl)
  have q14 := (hb.cell 14).trans (show _ = some (Value.int .i64 C.f2) from rfl)
  have q15 := (hb.cell 15).trans (show _ = some (Value.int .i64 C.f3) from rfl)
  have q16 := (hb.cell 16).trans (show _ = some (Value.int .i64 C.all) from rfl)
  go_enter Try.func44, Try.ntmps44
  go_wp2
  go_quiet (fail)
  go_wp2
  go_ret2
  exact ⟨rfl, Dr.drewN _ _⟩

theorem range_1 {w : World} {g : Nat} {C : Cf} {m : Nat → Nat} {f : Nat → Nat → Int} (h : Lyt w g C m f) : Calls Try.prog 44 #[.pointer (some ⟨g, 0, none⟩), .int .i64 1] w fun e w' => e = .returned (.tuple #[.int .i64 C.f1, .int .i64 C.f2]) ∧ Dr w w' := by
  obtain ⟨A, cap, hb, _⟩ := h
  have q12 := (hb.cell 12).trans (show _ = some (Value.int .i64 0) from rfl)
  have q13 := (hb.cell 13).trans (show _ = some (Value.int .i64 C.f1) from rfl)
  have q14 := (hb.cell 14).trans (show _ = some (Value.int .i64 C.f2) from rfl)
  have q15 := (hb.cell 15).trans (show _ = some (Value.int .i64 C.f3) from rfl)
  have q16 := (hb.cell 16).trans (show _ = some (Value.int .i64 C.all) from rfl)
  go_enter Try.func44, Try.ntmps44
  go_wp2
  go_quiet (fail)
  go_wp2
  go_ret2
  exact ⟨rfl, Dr.drewN _ _⟩

theorem range_2 {w : World} {g : Nat} {C : Cf} {m : Nat → Nat} {f : Nat → Nat → Int} (h : Lyt w g C m f) : Calls Try.prog 44 #[.pointer (some ⟨g, 0, none⟩), .int .i64 2] w fun e w' => e = .returned (.tuple #[.int .i64 C.f2, .int .i64 C.f3]) ∧ Dr w w' := by
  obtain ⟨A, cap, hb, _⟩ := h
  have q12 := (hb.cell 12).trans (show _ = some (Value.int .i64 0) from rfl)
  have q13 := (hb.cell 13).trans (show _ = some (Value.int .i64 C.f1) from rfl)
  have q14 := (hb.cell 14).trans (show _ = some (Value.int .i64 C.f2) from rfl)
  have q15 := (hb.cell 15).trans (show _ = some (Value.int .i64 C.f3) from rfl)
  have q16 := (hb.cell 16).trans (show _ = some (Value.int .i64 C.all) from rfl)
  go_enter Try.func44, Try.ntmps44
  go_wp2
  go_quiet (fail)
  go_wp2
  go_ret2
  exact ⟨rfl, Dr.drewN _ _⟩

theorem range_3 {w : World} {g : Nat} {C : Cf} {m : Nat → Nat} {f : Nat → Nat → Int} (h : Lyt w g C m f) : Calls Try.prog 44 #[.pointer (some ⟨g, 0, none⟩), .int .i64 3] w fun e w' => e = .returned (.tuple #[.int .i64 C.f3, .int .i64 C.all]) ∧ Dr w w' := by
  obtain ⟨A, cap, hb, _⟩ := h
  have q12 := (hb.cell 12).trans (show _ = some (Value.int .i64 0) from rfl)
  have q13 := (hb.cell 13).trans (show _ = some (Value.int .i64 C.f1) from rfl)
  have q14 := (hb.cell 14).trans (show _ = some (Value.int .i64 C.f2) from rfl)
  have q15 := (hb.cell 15).trans (show _ = some (Value.int .i64 C.f3) from rfl)
  have q16 := (hb.cell 16).trans (show _ = some (Value.int .i64 C.all) from rfl)
  go_enter Try.func44, Try.ntmps44
  go_wp2
  go_quiet (fail)
  go_wp2
  go_ret2
  exact ⟨rfl, Dr.drewN _ _⟩

theorem range_no {w : World} {g : Nat} {C : Cf} {m : Nat → Nat} {f : Nat → Nat → Int} (h : Lyt w g C m f) (b : Int) (hb : b < 0 ∨ 4 ≤ b) : Calls Try.prog 44 #[.pointer (some ⟨g, 0, none⟩), .int .i64 b] w fun e w' => e = .returned (.tuple #[.int .i64 0, .int .i64 0]) ∧ w = w' := by
  clear h
  by_cases h1 : b < 0
  · go_enter Try.func44, Try.ntmps44
    go_wp2
    go_ret2
    exact ⟨rfl, rfl⟩
  · have h2 : 4 ≤ b := by omega
    go_enter Try.func44, Try.ntmps44
    go_wp2
    go_ret2
    exact ⟨rfl, rfl⟩

/-- A block's first word. -/
def _root_.Go.Flo.Cf.at_ (C : Cf) (b : Nat) : Nat := if b < C.f1 then C.s0 + b * 2 else if b < C.f2 then C.s1 + (b - C.f1) * 4 else if b < C.f3 then C.s2 + (b - C.f2) * 8 else C.s3 + (b - C.f3) * 16

end Go.Proofs.Ytfihaaciaobolaa
