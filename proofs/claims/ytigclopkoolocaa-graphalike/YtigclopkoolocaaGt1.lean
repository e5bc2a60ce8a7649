/-
  scullionlaw12.turned's closure: where a node comes to stand. No conditions but what is in memory.
-/
import Derived.Test.YtigclopkoolocaaGd12
namespace Go.Proofs.Ytigclopkoolocaa
open Go.RowKit Go.Flo Go.Bit
set_option maxRecDepth 100000

theorem turnAt_any (w : World) (b c n t : Nat) (i : Int) (hn : n ≤ 65536) (ht : t < n) (hi : i < n) (hb : w.cell? ⟨b, 0, none⟩ = some (.int .i64 (t : Nat))) (hc : w.cell? ⟨c, 0, none⟩ = some (.int .i64 (n : Nat))) :
    Calls Try.prog 30 #[.int .i64 i, .pointer (some ⟨b, 0, none⟩), .pointer (some ⟨c, 0, none⟩)] w fun e w' => e = .returned (.int .i64 (mapI (turnN n t) i)) ∧ w = w' := by
  unfold mapI
  by_cases h0 : i < 0
  · rw [if_pos h0]
    go_enter Try.func30, Try.ntmps30
    go_wp2
    go_ret
    exact ⟨rfl, rfl⟩
  rw [if_neg h0]
  obtain ⟨k, rfl⟩ : ∃ k : Nat, i = k := ⟨i.toNat, by omega⟩
  unfold turnN
  rw [Int.toNat_natCast]
  have h1 : ((k : Int) + t) % n = (((k + t) % n : Nat) : Int) := by first | rfl | simp | exact (Int.natCast_emod (k + t) n).symm
  have h1' : ((k : Int) + t).tmod n = (((k + t) % n : Nat) : Int) := by rw [Int.tmod_eq_emod_of_nonneg (by omega)]; exact h1
  have hlt : (k + t) % n < n := Nat.mod_lt _ (by omega)
  have hn0 : ¬ (n : Int) = 0 := by omega
  have hn1 : ((n : Int) == 0) = false := by simp; omega
  generalize (k + t) % n = q at *
  go_enter Try.func30, Try.ntmps30
  go_wp2
  go_ret
  exact ⟨rfl, rfl⟩
end Go.Proofs.Ytigclopkoolocaa
