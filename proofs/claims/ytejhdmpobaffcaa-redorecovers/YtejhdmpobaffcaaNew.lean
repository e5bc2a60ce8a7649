/-
  New, and what the laws ask of every device first (awake). No conditions.
-/
import Derived.Test.YtejhdmpobaffcaaOf
namespace Go.Proofs.Ytejhdmpobaffcaa
open Go.RowKit Go.Flo
set_option maxRecDepth 100000

/-- What turned blocks that were not there has turned nothing. -/
theorem _root_.Go.Flo.Keep.into {own own' : List Nat} {a b c : World} (h : Keep own a b) (k : Keep own' b c) (ho : ∀ i ∈ own', a.heap.size ≤ i) : Keep own a c :=
  ⟨k.os.trans h.os, k.tape.trans h.tape, k.output.trans h.output, Nat.le_trans h.size k.size, fun i hi hn => (k.block i (Nat.lt_of_lt_of_le hi h.size) (fun hm => by have := ho i hm; omega)).trans (h.block i hi hn)⟩

/-- How many words New makes. -/
def newN (x : Int) : Nat := (min (max x 0) 65536).toNat

set_option maxHeartbeats 1000000 in
theorem new_any (w : World) (x : Int) : Calls Try.prog 30 #[.int .i64 x] w (DevPost (ofS (newN x) fun _ => 0) w) := by
  have hb : newN x ≤ 65536 := by unfold newN; omega
  obtain ⟨i28, hi28, z28a, z28b, z28c⟩ := info_parts parts28
  have hm1 : ∀ W : World, (Instr.makeSlice 25 (.int .i64 (newN x : Nat)) (.int .i64 (newN x : Nat))).run Try.prog W = .ok (.slice (some ⟨W.heap.size, 0, none⟩) (newN x) (newN x)) (W.alloc (.cells (madeCells (Value.int .u64 0).cells (newN x * 1)) 44)) := by
    intro W
    have := run_make (P := Try.prog) W 25 44 i28 (.int .u64 0) Try.underlying25 hi28 z28a .i64 .i64 (newN x : Nat) (newN x : Nat) (by omega) (by omega) (by rw [z28c]; omega) (by omega)
    rw [z28b] at this
    simpa using this
  have hr := Row.made w 44 (.int .u64 0) rfl (newN x) (by unfold maxLen; omega)
  have hsz : w.heap.size < (w.alloc (.cells (madeCells (Value.int .u64 0).cells (newN x * 1)) 44)).heap.size := by simp
  have hk : Keep [] w (w.alloc (.cells (madeCells (Value.int .u64 0).cells (newN x * 1)) 44)) := Keep.alloc _ _
  have ho := of_any (w.alloc (.cells (madeCells (Value.int .u64 0).cells (newN x * 1)) 44)) ⟨w.heap.size, 0, none⟩ (newN x) (newN x) (fun _ => 0) hb (Nat.le_refl _) (by omega) (fun j hj => hr.cellAdd hj) hsz
  clear hr hi28 z28a z28b z28c
  generalize madeCells (Value.int .u64 0).cells (newN x * 1) = Z at *
  rcases Int.lt_trichotomy x 0 with h0 | h0 | h0
  · have h1 : ¬ 0 < x := by omega
    have e : newN x = 0 := by unfold newN; omega
    rw [e] at ho hm1 ⊢
    clear e hb
    change ∀ W : World, (Instr.makeSlice 25 (.int .i64 0) (.int .i64 0)).run Try.prog W = _ at hm1
    go_enter Try.func30, Try.ntmps30
    go_wp2_with fail
    (with_reducible refine ho.mono ?_)
    rintro e w' ⟨L, rfl, hD, hf, hK⟩
    go_wp2
    go_ret
    exact ⟨L, rfl, hD, fun k hk => by have := hf k hk; omega, hk.trans hK⟩
  · have e : newN x = 0 := by unfold newN; omega
    rw [e] at ho hm1 ⊢
    clear e hb
    change ∀ W : World, (Instr.makeSlice 25 (.int .i64 0) (.int .i64 0)).run Try.prog W = _ at hm1
    subst h0
    go_enter Try.func30, Try.ntmps30
    go_wp2_with fail
    (with_reducible refine ho.mono ?_)
    rintro e w' ⟨L, rfl, hD, hf, hK⟩
    go_wp2
    go_ret
    exact ⟨L, rfl, hD, fun k hk => by have := hf k hk; omega, hk.trans hK⟩
  · have h0' : 0 ≤ x := by omega
    have h0'' : ¬ x < 0 := by omega
    rcases Int.lt_trichotomy x 65536 with h1 | h1 | h1
    · have h2 : x ≤ 65536 := by omega
      have e : ((newN x : Nat) : Int) = x := by unfold newN; omega
      rw [e] at hm1
      have HE := Lib.hid e
      clear e
      go_enter Try.func30, Try.ntmps30
      go_wp2_with fail
      (with_reducible refine ho.mono ?_)
      rintro e w' ⟨L, rfl, hD, hf, hK⟩
      go_wp2
      go_ret
      exact ⟨L, rfl, hD, fun k hk => by have := hf k hk; omega, hk.trans hK⟩
    · have e : newN x = 65536 := by unfold newN; omega
      rw [e] at ho hm1 ⊢
      clear e hb
      change ∀ W : World, (Instr.makeSlice 25 (.int .i64 65536) (.int .i64 65536)).run Try.prog W = _ at hm1
      subst h1
      go_enter Try.func30, Try.ntmps30
      go_wp2_with fail
      (with_reducible refine ho.mono ?_)
      rintro e w' ⟨L, rfl, hD, hf, hK⟩
      go_wp2
      go_ret
      exact ⟨L, rfl, hD, fun k hk => by have := hf k hk; omega, hk.trans hK⟩
    · have h2 : ¬ x < 65536 := by omega
      have h3 : 65536 ≤ x := by omega
      have e : newN x = 65536 := by unfold newN; omega
      rw [e] at ho hm1 ⊢
      clear e hb
      change ∀ W : World, (Instr.makeSlice 25 (.int .i64 65536) (.int .i64 65536)).run Try.prog W = _ at hm1
      go_enter Try.func30, Try.ntmps30
      go_wp2_with fail
      (with_reducible refine ho.mono ?_)
      rintro e w' ⟨L, rfl, hD, hf, hK⟩
      go_wp2
      go_ret
      exact ⟨L, rfl, hD, fun k hk => by have := hf k hk; omega, hk.trans hK⟩
end Go.Proofs.Ytejhdmpobaffcaa
