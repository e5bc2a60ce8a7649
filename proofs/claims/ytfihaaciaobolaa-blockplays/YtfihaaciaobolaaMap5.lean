/-
  Package bitmap: New, Words, Copy; the law's awake. No conditions but what a map is.
-/
import Derived.Test.YtfihaaciaobolaaMap4
import Derived.StillTailTactics
namespace Go.Proofs.Ytfihaaciaobolaa
open Go.RowKit Go.Flo Go.Bit Go.Bmp
set_option maxRecDepth 100000

theorem ofB_none (n : Nat) (f : Nat → Nat) : ofB n 0 f = fun _ => false := by
  funext i
  simp [ofB]
theorem ofB_pack {n : Nat} {B : Nat → Bool} (ht : ∀ i, n ≤ i → B i = false) : ofB n (nw n) (pack B) = B := by
  funext i
  unfold ofB
  by_cases h : i < n
  · have h1 := nw_lt h
    rw [pack_bit]
    rw [show 64 * (i / 64) + i % 64 = i by omega]
    have h2 : i % 64 < 64 := Nat.mod_lt _ (by decide)
    simp [h, h1, h2]
  · simp [h, ht i (by omega)]
theorem clampN_nat {n : Nat} (h : n ≤ 1048576) : clampN (n : Int) = n := by unfold clampN; omega

theorem new_any (w : World) (x : Int) : Calls Try.prog 66 #[.int .i64 x] w (MapPost (clampN x) (fun _ => false) w) := by
  have h := of_any w x none 0 0 (fun _ => 0) (Wrd.nil w)
  rw [ofB_none] at h
  go_enter Try.func66, Try.ntmps66
  go_wp2_with fail
  (with_reducible refine h.mono ?_)
  rintro e w' ⟨L, rfl, h1, h2, h3, h4⟩
  go_wp2
  go_ret
  exact ⟨L, rfl, h1, h2, h3, h4⟩

/-- A row of a map's words, in a block that was not there. -/
def WordsPost (n : Nat) (B : Nat → Bool) (w : World) (e : Ending) (w' : World) : Prop :=
  ∃ g cap, e = .returned (.slice (some ⟨g, 0, none⟩) (nw n) cap) ∧ Row w' 64 g (nw n) cap (wv B) ∧ w.heap.size ≤ g ∧ Keep [] w w'

theorem Mp.wrd {w : World} {L : MLoc} {n : Nat} {B : Nat → Bool} (h : Mp w L n B) : Wrd w (some ⟨L.r, 0, none⟩) (nw n) L.c (pack B) := Wrd.row h.row (pack_lt B)

set_option maxHeartbeats 1000000 in
theorem mwords_any {w : World} {L : MLoc} {n : Nat} {B : Nat → Bool} (h : Mp w L n B) : Calls Try.prog 29 #[.pointer (some ⟨L.m, 0, none⟩)] w (WordsPost n B w) := by
  have hle := nw_le h.le
  have hmk := mk_u64 (nw n) (by omega) w
  have hrow := Row.made w 64 (.int .u64 0) rfl (nw n) (by unfold maxLen; omega)
  have hkw : Keep [] w (w.alloc (.cells (madeCells (Value.int .u64 0).cells (nw n * 1)) 64)) := Keep.alloc _ _
  have c1 := h.c1
  generalize w.alloc (.cells (madeCells (Value.int .u64 0).cells (nw n * 1)) 64) = W1 at *
  have h1 := h.keep0 hkw
  have d1 := h1.c1
  obtain ⟨W3, hcp, hrow3, hk3⟩ := run_copy_in 23 23 3 64 Try.underlying23 u64size w.heap.size (nw n) (nw n) (some ⟨L.r, 0, none⟩) (nw n) L.c 64 (nw n) (fun _ => .int .u64 0) hrow (pack B) h1.wrd
  have hrow4 : Row W3 64 w.heap.size (nw n) (nw n) (wv B) := hrow3.congr fun i hi => by
    unfold wv
    simp [hi]
  have hk4 : Keep [] w W3 := ⟨hk3.os.trans hkw.os, hk3.tape.trans hkw.tape, hk3.output.trans hkw.output, Nat.le_trans hkw.size hk3.size, fun k hk hm => (hk3.block k (Nat.lt_of_lt_of_le hk hkw.size) (by simp; omega)).trans (hkw.block k hk hm)⟩
  have HF := Lib.hid (And.intro hrow4 hk4)
  clear hrow4 hk4 hrow3 hk3 hrow hkw h1 h
  go_enter Try.func29, Try.ntmps29
  go_wp2
  go_ret
  exact ⟨w.heap.size, nw n, rfl, HF.out.1, Nat.le_refl _, HF.out.2⟩
theorem mwords_nil (w : World) : Calls Try.prog 29 #[.pointer none] w fun e w' => e = .returned (.slice none 0 0) ∧ w = w' := by
  go_enter Try.func29, Try.ntmps29
  go_wp2
  go_ret
  exact ⟨rfl, rfl⟩

set_option maxHeartbeats 1000000 in
theorem mcopy_any {w : World} {L : MLoc} {n : Nat} {B : Nat → Bool} (h : Mp w L n B) : Calls Try.prog 41 #[.pointer (some ⟨L.m, 0, none⟩)] w (MapPost n B w) := by
  have c0 := h.c0
  have c1 := h.c1
  have hd := h.keep0 (Keep.drew w)
  have ho := of_any w.drew n (some ⟨L.r, 0, none⟩) (nw n) L.c (pack B) hd.wrd
  rw [clampN_nat h.le, ofB_pack h.tidy] at ho
  have hkd : Keep [] w w.drew := Keep.drew w
  have hsd : w.drew.heap.size = w.heap.size := rfl
  go_enter Try.func41, Try.ntmps41
  go_wp2_with fail
  go_still_tail 8, (by kernel_rfl)
  change wpList _ _ _ _ _ w.drew
  generalize w.drew = w1 at *
  go_wp2_with fail
  (with_reducible refine ho.mono ?_)
  rintro e w' ⟨L', rfl, h1, h2, h3, h4⟩
  rw [hsd] at h2 h3
  go_wp2
  go_ret
  exact ⟨L', rfl, h1, h2, h3, hkd.trans h4⟩
theorem mcopy_nil (w : World) : Calls Try.prog 41 #[.pointer none] w fun e w' => e = .returned (.pointer none) ∧ w = w' := by
  go_enter Try.func41, Try.ntmps41
  go_wp2
  go_ret
  exact ⟨rfl, rfl⟩

end Go.Proofs.Ytfihaaciaobolaa
