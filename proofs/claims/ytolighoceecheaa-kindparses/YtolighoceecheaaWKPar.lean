/-
  KindParses walked. No conditions but what came in.
-/
import Derived.Test.YtolighoceecheaaKnd4
namespace Go.Proofs.Ytolighoceecheaa
open Go.RowKit Go.Flo Go.Bit
set_option maxRecDepth 100000

theorem rpk_un {x : Nat} {w : World} {e : Ending} {w' : World} (h : RPkPost x w e w') :
    ∃ A c, e = .returned (.tuple #[.agg #[.slice A (if RPk x then pm x else 0) c], .bool (decide (RPk x))]) ∧ Ints w' A (if RPk x then pm x else 0) c (pf x) ∧ Keep [] w w' := by
  rcases h with ⟨h, A, c, rfl, h1, _, h3⟩ | ⟨h, rfl, h3⟩
  · exact ⟨A, c, by simp [h], by simpa [h] using h1, h3⟩
  · exact ⟨none, 0, by simp [h], by simpa [h] using Ints.none _ _, h3⟩

set_option maxHeartbeats 2000000 in
theorem walk_kparses (w : World) (x : Nat) (hx : x < 18446744073709551616) :
    Calls Try.prog 4 #[.int .u64 x] w fun e w' => e = .returned (.bool true) ∧ Keep [] w w' := by
  have h1 := fun W => (kparse_any x hx W).mono (fun e w' h => rpk_un h)
  have h2 := fun W => (rparseKind_any x hx W).mono (fun e w' h => rpk_un h)
  have hs : ∀ (n : Nat), SameI n (pf x) n (pf x) := fun n => ⟨rfl, fun _ _ => rfl⟩
  generalize (if RPk x then pm x else 0) = n at *
  generalize decide (RPk x) = b at *
  generalize pf x = f at *
  have hS := fun W A A' c c' (a : Ints W A n c f) (b : Ints W A' n c' f) => sameKind_any W A A' n c n c' f f a b
  rw [show decide (SameI n f n f) = true from decide_eq_true (hs n)] at hS
  have hbb : (b == b) = true := by simp
  have HS := Lib.hid hS
  clear hS hs
  go_enter Try.func4, Try.ntmps4
  go_wp2_with fail
  (with_reducible refine (h1 _).mono ?_)
  rintro e w1 ⟨A, c, rfl, hI, k1⟩
  have ka : Keep [] w1 (w1.alloc (.cells #[.slice A n c] 25)) := Keep.alloc _ _
  have HB := Lib.hid (Blk.new w1 25 #[.slice A n c])
  have HI := Lib.hid (hI.keep ka)
  clear hI
  go_wp2_with fail
  (with_reducible refine (h2 _).mono ?_)
  rintro e w2 ⟨A2, c2, rfl, hI2, k2⟩
  have kb : Keep [] w2 (w2.alloc (.cells #[.slice A2 n c2] 25)) := Keep.alloc _ _
  have q0 := ((HB.out.keep k2 (by simp)).cell 0).trans (show _ = some (Value.slice A n c) from rfl)
  have hq : w1.heap.size < w2.heap.size := (HB.out.keep k2 (by simp)).lt
  have hs := HS.out _ A A2 c c2 ((HI.out.keep k2).keep kb) (hI2.keep kb)
  clear hI2
  go_wp2_with fail
  (with_reducible refine hs.mono ?_)
  rintro e w3 ⟨rfl, k3⟩
  go_wp2_with fail
  (with_reducible refine (awake8_any _).mono ?_)
  rintro e w4 ⟨rfl, k4⟩
  go_wp2
  go_ret
  exact ⟨rfl, ((((k1.trans ka).trans k2).trans kb).trans k3).trans k4⟩

theorem walk_kparses_wf (w : World) (a : Int) (h : (Lit.int .u64 a).wf = true) :
    Calls Try.prog 4 #[.int .u64 a] w fun e w' => e = .returned (.bool true) ∧ Keep [] w w' := by
  obtain ⟨n, rfl, hn⟩ := u64_nat h
  exact walk_kparses w n hn
end Go.Proofs.Ytolighoceecheaa
