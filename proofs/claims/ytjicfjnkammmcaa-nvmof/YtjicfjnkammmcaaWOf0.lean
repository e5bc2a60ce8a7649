/-
  A device of no words, its rows nil; and one word stored, flushed and fenced. No conditions.
-/
import Derived.Test.YtjicfjnkammmcaaWOfN
namespace Go.Proofs.Ytjicfjnkammmcaa
open Go.RowKit Go.Flo

theorem n_len (w : World) (d t f : Nat) (h : NilDev w d t f) : Calls Try.prog 24 #[.pointer (some ⟨d, 0, none⟩)] w fun e w' => e = .returned (.int .i64 0) ∧ w = w' := by
  have c0 := (Blk.cell h 0).trans rfl
  go_enter Try.func24, Try.ntmps24
  go_wp2
  go_ret
  exact ⟨rfl, rfl⟩
theorem n_steps (w : World) (d t f : Nat) (h : NilDev w d t f) : Calls Try.prog 26 #[.pointer (some ⟨d, 0, none⟩)] w fun e w' => e = .returned (.int .i64 0) ∧ w = w' := by
  have c4 := (Blk.cell h 4).trans rfl
  go_enter Try.func26, Try.ntmps26
  go_wp2
  go_ret
  exact ⟨rfl, rfl⟩
theorem n_words (w : World) (d t f : Nat) (h : NilDev w d t f) : Calls Try.prog 28 #[.pointer (some ⟨d, 0, none⟩)] w fun e w' => e = .returned (.slice none 0 0) ∧ w = w' := by
  have c1 := (Blk.cell h 1).trans rfl
  go_enter Try.func28, Try.ntmps28
  go_wp2_with fail
  (with_reducible refine (clone_nil w 0).mono ?_)
  rintro e w' ⟨rfl, rfl⟩
  go_wp2
  go_ret
  exact ⟨rfl, rfl⟩
theorem n_has (w : World) (d cap : Nat) (A : Option Addr) (c0 : w.cell? ⟨d, 0, none⟩ = some (.slice A 0 cap)) : Calls Try.prog 44 #[.pointer (some ⟨d, 0, none⟩), .int .i64 0] w fun e w' => e = .returned (.bool false) ∧ w = w' := by
  go_enter Try.func44, Try.ntmps44
  go_wp2
  go_ret
  exact ⟨rfl, rfl⟩
theorem n_step (w : World) (d t f : Nat) (h : NilDev w d t f) : Calls Try.prog 45 #[.pointer (some ⟨d, 0, none⟩)] w fun e w' => e = .returned (.tuple #[]) ∧ w.setCell ⟨d, 4, none⟩ (.int .i64 1) = w' := by
  have c4 := (Blk.cell h 4).trans rfl
  have c5 := (Blk.cell h 5).trans rfl
  have z := fun i => Blk.frozen h i
  go_enter Try.func45, Try.ntmps45
  go_wp2
  go_end0
  exact ⟨rfl, rfl⟩
theorem n_answer (w : World) (d : Nat) (c6 : w.cell? ⟨d, 6, none⟩ = some (.bool false)) : Calls Try.prog 43 #[.pointer (some ⟨d, 0, none⟩), .bool false] w fun e w' => e = .returned (.int .i64 1) ∧ w = w' := by
  go_enter Try.func43, Try.ntmps43
  go_wp2
  go_ret
  exact ⟨rfl, rfl⟩
set_option maxHeartbeats 2000000 in
theorem n_store (w : World) (d t f : Nat) (h : NilDev w d t f) (v : Int) : Calls Try.prog 21 #[.pointer (some ⟨d, 0, none⟩), .int .i64 0, .int .u64 v] w fun e w' => e = .returned (.int .i64 1) ∧ Keep [d] w w' := by
  have c0 := (Blk.cell h 0).trans rfl
  have c6 := (Blk.cell h 6).trans rfl
  have h1 := n_has w d 0 none c0
  have h2 := n_step w d t f h
  have hB := Blk.set_ h 4 (.int .i64 1)
  have h3 := n_has (w.setCell ⟨d, 4, none⟩ (.int .i64 1)) d 0 none ((hB.cell 0).trans rfl)
  have h4 := n_answer (w.setCell ⟨d, 4, none⟩ (.int .i64 1)) d ((hB.cell 6).trans rfl)
  have hk : Keep [d] w (w.setCell ⟨d, 4, none⟩ (.int .i64 1)) := Keep.setCell _ _ (by simp) _
  clear h hB
  generalize w.setCell ⟨d, 4, none⟩ (.int .i64 1) = wa at *
  go_enter Try.func21, Try.ntmps21
  go_wp2_with fail
  (with_reducible refine h1.mono ?_)
  rintro e w' ⟨rfl, rfl⟩
  go_wp2_with fail
  (with_reducible refine h2.mono ?_)
  rintro e w' ⟨rfl, rfl⟩
  go_wp2_with fail
  (with_reducible refine h3.mono ?_)
  rintro e w' ⟨rfl, rfl⟩
  go_wp2_with fail
  (with_reducible refine h4.mono ?_)
  rintro e w' ⟨rfl, rfl⟩
  go_wp2
  go_ret
  exact ⟨rfl, hk⟩

/-! What one word stored, flushed and fenced comes to. -/

def of1 (n : Nat) (f : Nat → Int) (k : Nat) (v : Int) : St := storeS (ofS n f) k v
def of2 (n : Nat) (f : Nat → Int) (k : Nat) (v : Int) : St := flushS (of1 n f k v) k
def of3 (n : Nat) (f : Nat → Int) (k : Nat) (v : Int) : St := fenceS (of2 n f k v)

section
variable {n k : Nat} {f : Nat → Int} {v : Int}
theorem of1_eq (hk : k < n) : of1 n f k v = stepS (putS (ofS n f) k v) := by
  have hh : hasB n (k : Int) = true := by simp [hasB]; omega
  simp [of1, storeS, ofS, hh]
theorem of2_eq (hk : k < n) : of2 n f k v = takeS (stepS (stepS (putS (ofS n f) k v))) (k / 8) := by
  have hh : hasB n (k : Int) = true := by simp [hasB]; omega
  rw [of2, of1_eq hk]
  simp [flushS, stepS, putS, ofS, hh]
theorem of3_eq (hk : k < n) : of3 n f k v = drainS (stepS (takeS (stepS (stepS (putS (ofS n f) k v))) (k / 8))) := by
  rw [of3, of2_eq hk]
  simp [fenceS, stepS, takeS, putS, ofS]
theorem of3_sure (hk : k < n) (i : Nat) : (of3 n f k v).sure i = if i = k then v else f i := by
  rw [of3_eq hk]
  show (if (if i / 8 = k / 8 then true else false) = true then (if 8 * (k / 8) ≤ i ∧ i < 8 * (k / 8) + 8 then (if i = k then v else f i) else 0) else f i) = _
  by_cases h : i / 8 = k / 8
  · rw [if_pos (by rw [if_pos h]), if_pos (by omega)]
  · rw [if_neg (by rw [if_neg h]; simp), if_neg (by intro e; subst e; exact h rfl)]
theorem of_ans1 (hk : k < n) : ans (stepS (ofS n f)).off (hasB (ofS n f).n k) = 0 := by
  have hh : hasB (ofS n f).n (k : Int) = true := by simp [hasB, ofS]; omega
  rw [hh]
  rfl
theorem of3_steps (hk : k < n) : (of3 n f k v).steps = 3 := by
  rw [of3_eq hk]
  rfl
end

set_option maxRecDepth 100000 in
set_option maxHeartbeats 4000000 in
theorem walk_of_nil (a1 v : Int) (w : World) :
    Calls Try.prog 9 #[.slice none 0 0, .int .i64 a1, .int .u64 v] w fun e w' => e = .returned (.bool true) ∧ Keep [] w w' := by
  go_enter Try.func9, Try.ntmps9
  go_wp2_with fail
  (with_reducible refine (of_nil w).mono ?_)
  rintro e w1 ⟨d, t, f, rfl, hD, hd, hK⟩
  go_wp2_with fail
  (with_reducible refine (n_len w1 d t f hD).mono ?_)
  rintro e w' ⟨rfl, rfl⟩
  go_wp2_with fail
  (with_reducible refine (n_steps w1 d t f hD).mono ?_)
  rintro e w' ⟨rfl, rfl⟩
  go_wp2_with fail
  (with_reducible refine (n_words w1 d t f hD).mono ?_)
  rintro e w' ⟨rfl, rfl⟩
  go_wp2_with fail
  (with_reducible refine (same_none w1 none none 0 0).mono ?_)
  rintro e w2 ⟨rfl, d2⟩
  have hD2 : NilDev w2 d t f := Blk.dr hD d2
  have hst := n_store w2 d t f hD2 v
  go_wp2_with fail
  (with_reducible refine hst.mono ?_)
  rintro e w3 ⟨rfl, hK3⟩
  go_wp2_with fail
  (with_reducible refine (awake_any w3).mono ?_)
  rintro e w4 ⟨rfl, hK4⟩
  go_wp2
  go_ret
  exact ⟨rfl, ((hK.trans (Keep.dr d2)).into hK3 (by simpa using hd)).trans hK4⟩

end Go.Proofs.Ytjicfjnkammmcaa
