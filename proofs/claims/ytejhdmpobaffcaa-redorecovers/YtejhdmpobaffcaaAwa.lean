/-
  What the laws of layer 4 ask of every program first (awake); calls of no device; Need, twice. No conditions.
-/
import Derived.Test.YtejhdmpobaffcaaRedo6
namespace Go.Proofs.Ytejhdmpobaffcaa
open Go.RowKit Go.Flo
set_option maxRecDepth 100000

def awE : Nat → Ent := fun j => if j = 0 then ⟨40, 1⟩ else ⟨41, 2⟩
def awS : St := ofS 64 fun _ => 0
theorem awk_1 : (writeR awS 0 40 awE 2).2 = 0 := by kernel_rfl
theorem awk_2 : loadV (writeR awS 0 40 awE 2).1 41 = 2 := by kernel_rfl
theorem awk_3 : ans (writeR awS 0 40 awE 2).1.off (hasB (writeR awS 0 40 awE 2).1.n 41) = 0 := by kernel_rfl
theorem awk_4 : 0 ≤ awS.steps ∧ awS.steps < 800000 := by decide
theorem awk_5 : EB awE 2 := by
  intro j hj
  unfold awE
  split <;> decide
theorem awk_6 (w : World) (own : List Nat) (ho : w.heap.size ∉ own) : Ents (w.alloc (.cells #[.int .i64 40, .int .u64 1, .int .i64 41, .int .u64 2] 46)) own (some ⟨w.heap.size, 0, none⟩) 2 2 awE := by
  have hB : Blk (w.alloc (.cells #[.int .i64 40, .int .u64 1, .int .i64 41, .int .u64 2] 46)) w.heap.size 46 #[.int .i64 40, .int .u64 1, .int .i64 41, .int .u64 2] := Blk.new w 46 _
  refine ⟨by omega, by omega, fun _ => ⟨_, 0, rfl, ho, hB.lt, fun j hj => ?_⟩⟩
  have : j = 0 ∨ j = 1 := by omega
  rcases this with rfl | rfl
  · exact ⟨(hB.cell 0).trans rfl, (hB.cell 1).trans rfl⟩
  · exact ⟨(hB.cell 2).trans rfl, (hB.cell 3).trans rfl⟩

set_option maxHeartbeats 2000000 in
theorem awake_any (w : World) : Calls Try.prog 14 #[] w fun e w' => e = .returned (.bool true) ∧ Keep [] w w' := by
  have h0 : Calls Try.prog 30 #[.int .i64 64] w (DevPost awS w) := new_any w 64
  have hnd : ∀ W, Calls Try.prog 12 #[.int .i64 8] W fun e w' => e = .returned (.int .i64 24) ∧ W = w' := fun W => need_any W 8
  have HND := Lib.hid hnd
  clear hnd
  go_enter Try.func14, Try.ntmps14
  go_wp2_with fail
  (with_reducible refine h0.mono ?_)
  rintro e w0 ⟨L, rfl, D0, hf, K0⟩
  have k1 : Keep [] w0 (w0.alloc (.cells #[.int .i64 40, .int .u64 1, .int .i64 41, .int .u64 2] 46)) := Keep.alloc _ _
  have h1 : Calls Try.prog 17 #[.pointer (some ⟨L.d, 0, none⟩), .int .i64 0, .int .i64 40, .slice (some ⟨w0.heap.size, 0, none⟩) 2 2] (w0.alloc (.cells #[.int .i64 40, .int .u64 1, .int .i64 41, .int .u64 2] 46)) (Did L (writeR awS 0 40 awE 2).1 (w0.alloc (.cells #[.int .i64 40, .int .u64 1, .int .i64 41, .int .u64 2] 46)) (.int .i64 0)) := by
    have := write_any _ L awS (D0.keep k1 (by simp)) 0 40 (some ⟨w0.heap.size, 0, none⟩) 2 2 awE (awk_6 w0 L.own D0.fresh) awk_5 awk_4.1 awk_4.2
    rw [awk_1] at this
    exact this
  clear h0
  go_wp2_with fail
  (with_reducible refine h1.mono ?_)
  rintro e w1 ⟨rfl, D1, K1⟩
  have h2 : Calls Try.prog 31 #[.pointer (some ⟨L.d, 0, none⟩), .int .i64 41] w1 fun e w' => e = .returned (.tuple #[.int .u64 2, .int .i64 0]) ∧ w1 = w' := by
    have := load_any w1 L _ D1 41
    unfold LoadPost at this
    rw [awk_2, awk_3] at this
    exact this
  have h3 := HND.out w1
  clear h1 D0 D1
  go_wp2_with fail
  (with_reducible refine h2.mono ?_)
  rintro e w2 ⟨rfl, rfl⟩
  clear h2
  go_wp2_with fail
  (with_reducible refine h3.mono ?_)
  rintro e w2 ⟨rfl, rfl⟩
  go_wp2
  go_ret
  exact ⟨rfl, K0.into (k1.of_nil.trans K1) hf⟩

theorem rneed_any (w : World) (x : Int) : Calls Try.prog 13 #[.int .i64 x] w fun e w' => e = .returned (.int .i64 (needI x)) ∧ w = w' := by
  by_cases h0 : x < 0
  · have e : needI x = 0 := by unfold needI; rw [if_pos (by omega)]
    rw [e]
    go_enter Try.func13, Try.ntmps13
    go_wp2
    go_ret
    exact ⟨rfl, rfl⟩
  · by_cases h1 : 1024 < x
    · have e : needI x = 0 := by unfold needI; rw [if_pos (by omega)]
      rw [e]
      have h0' : 0 ≤ x := by omega
      clear e
      go_enter Try.func13, Try.ntmps13
      go_wp2
      go_ret
      exact ⟨rfl, rfl⟩
    · have e : needI x = 8 + 2 * x := by unfold needI; rw [if_neg (by omega)]
      rw [e]
      have h0' : 0 ≤ x := by omega
      have h1' : x ≤ 1024 := by omega
      clear e
      go_enter Try.func13, Try.ntmps13
      go_wp2
      go_ret
      exact ⟨rfl, rfl⟩

set_option maxHeartbeats 2000000 in
theorem walk_need (x : Int) (w : World) : Calls Try.prog 3 #[.int .i64 x] w fun e w' => e = .returned (.bool true) ∧ Keep [] w w' := by
  have h1 := need_any w x
  have h2 := rneed_any w x
  have h3 := awake_any w
  generalize needI x = y at *
  have d : (y == y) = true := by simp
  go_enter Try.func3, Try.ntmps3
  go_wp2_with fail
  (with_reducible refine h1.mono ?_)
  rintro e w2 ⟨rfl, rfl⟩
  go_wp2_with fail
  (with_reducible refine h2.mono ?_)
  rintro e w2 ⟨rfl, rfl⟩
  go_wp2_with fail
  (with_reducible refine h3.mono ?_)
  rintro e w2 ⟨rfl, hK⟩
  go_wp2
  go_ret
  exact ⟨by simp, hK⟩

set_option maxHeartbeats 2000000 in
theorem write_nil (w : World) (f t : Int) (A : Option Addr) (n cap : Nat) : Calls Try.prog 17 #[.pointer none, .int .i64 f, .int .i64 t, .slice A n cap] w fun e w' => e = .returned (.int .i64 1) ∧ Keep [] w w' := by
  have k0 : Keep [] w (w.alloc (.cells #[.pointer none, .int .i64 f, .int .i64 t] 73)) := Keep.alloc _ _
  have h1 := may_nil (w.alloc (.cells #[.pointer none, .int .i64 f, .int .i64 t] 73)) f t
  go_enter Try.func17, Try.ntmps17
  go_wp2_with fail
  (with_reducible refine h1.mono ?_)
  rintro e w2 ⟨rfl, hK⟩
  go_wp2
  go_ret
  exact ⟨rfl, k0.trans hK⟩

set_option maxHeartbeats 2000000 in
theorem recover_nil (w : World) (f t : Int) : Calls Try.prog 26 #[.pointer none, .int .i64 f, .int .i64 t] w fun e w' => e = .returned (.tuple #[.int .i64 0, .int .i64 1]) ∧ Keep [] w w' := by
  have k0 : Keep [] w (w.alloc (.cells #[.pointer none, .int .i64 f, .int .i64 t] 73)) := Keep.alloc _ _
  have h1 := may_nil (w.alloc (.cells #[.pointer none, .int .i64 f, .int .i64 t] 73)) f t
  go_enter Try.func26, Try.ntmps26
  go_wp2_with fail
  (with_reducible refine h1.mono ?_)
  rintro e w2 ⟨rfl, hK⟩
  go_wp2
  go_ret2
  exact ⟨rfl, k0.trans hK⟩

set_option maxHeartbeats 2000000 in
theorem clean_nil (w : World) (f t : Int) : Calls Try.prog 28 #[.pointer none, .int .i64 f, .int .i64 t] w fun e w' => e = .returned (.tuple #[.bool false, .int .i64 1]) ∧ Keep [] w w' := by
  have h1 := may_nil w f t
  go_enter Try.func28, Try.ntmps28
  go_wp2_with fail
  (with_reducible refine h1.mono ?_)
  rintro e w2 ⟨rfl, hK⟩
  go_wp2
  go_ret2
  exact ⟨rfl, hK⟩

set_option maxHeartbeats 2000000 in
theorem walk_nil (f t : Int) (A : Option Addr) (n cap : Nat) (w : World) : Calls Try.prog 6 #[.int .i64 f, .int .i64 t, .slice A n cap] w fun e w' => e = .returned (.bool true) ∧ Keep [] w w' := by
  have h1 := recover_nil w f t
  go_enter Try.func6, Try.ntmps6
  go_wp2_with fail
  (with_reducible refine h1.mono ?_)
  rintro e w1 ⟨rfl, hK1⟩
  have h2 := clean_nil w1 f t
  clear h1
  go_wp2_with fail
  (with_reducible refine h2.mono ?_)
  rintro e w2 ⟨rfl, hK2⟩
  have h3 := write_nil w2 f t A n cap
  clear h2
  go_wp2_with fail
  (with_reducible refine h3.mono ?_)
  rintro e w3 ⟨rfl, hK3⟩
  have h4 := awake_any w3
  clear h3
  go_wp2_with fail
  (with_reducible refine h4.mono ?_)
  rintro e w4 ⟨rfl, hK4⟩
  go_wp2
  go_ret
  exact ⟨rfl, ((hK1.trans hK2).trans hK3).trans hK4⟩
end Go.Proofs.Ytejhdmpobaffcaa
