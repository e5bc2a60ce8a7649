/-
  The law on a value's words and on words as a value, walked. Conditions: what is in memory, what the library's tables hold.
-/
import Derived.Test.YtjnaglellobmmaaDoorVal5
namespace Go.Proofs.YtjnaglellobmmaaDoor
open Go.RowKit Go.Flo
set_option maxRecDepth 100000

set_option maxHeartbeats 2000000 in
theorem walk_vwords (w : World) (kind K n p q r : Int) (A : Option Addr) (cap : Nat) (l : List Int) (hA : Wd w A l) (hl : ∀ x ∈ l, 0 ≤ x ∧ x < 18446744073709551616) (hlc : l.length ≤ cap) (hcm : cap ≤ 9223372036854775807) (hT : Tabs w) :
    Calls Tryd.prog 4 #[.int .i64 kind, .agg #[.int .i64 K, .int .i64 n, .int .u64 p, .int .u64 q, .int .i64 r], .slice A l.length cap] w fun e w' => e = .returned (.bool true) ∧ Keep [] w w' := by
  have kb : Keep [] w (w.alloc (.cells #[.int .i64 K, .int .i64 n, .int .u64 p, .int .u64 q, .int .i64 r] 24)) := Keep.alloc _ _
  have hB := Blk.new w 24 #[.int .i64 K, .int .i64 n, .int .u64 p, .int .u64 q, .int .i64 r]
  have hW := fun W => vwords_any kind K n p q r W
  have hW' := fun W => rvwords_any kind K n p q r W
  have hO := fun W (hk : Keep [] w W) => vof_any kind A cap l hl hlc hcm W (hA.keep hk)
  have hO' := fun W (hk : Keep [] w W) => rvof_any kind A cap l hl hlc hcm W (hA.keep hk)
  have hV := ofV_kind kind l
  have hAw := fun W (hk : Keep [] w W) => awake10_any W (hT.keep hk)
  unfold WPost at hW hW'
  unfold OPost at hO hO'
  generalize (wordsV kind ⟨K, n, p, q, r⟩).getD [] = L at *
  generalize (wordsV kind ⟨K, n, p, q, r⟩).isSome = i1 at *
  generalize (ofV kind l).isSome = i2 at *
  generalize (ofV kind l).getD z0 = V at *
  obtain ⟨a0, a1, a2, a3, a4⟩ := V
  dsimp only at hO hO' hV
  have hS := fun W => rvsame_any a0 a1 a2 a3 a4 a0 a1 a2 a3 a4 W
  rw [sameV_self hV] at hS
  generalize l.length = k at *
  have HO := Lib.hid hO
  have HO' := Lib.hid hO'
  have HA := Lib.hid hAw
  have HB := Lib.hid (And.intro hB kb)
  clear hl hlc hcm hT hA hO hO' hAw hV hB kb
  go_enter Tryd.func4, Tryd.ntmps4
  go_wp2_with fail
  (with_reducible refine (hW _).mono ?_)
  rintro e w1 ⟨A1, rfl, hA1, k1⟩
  clear hW
  have hb1 := HB.out.1.keep k1 (by simp)
  have y0 := (hb1.cell 0).trans (show _ = some (Value.int .i64 K) from rfl)
  have y1 := (hb1.cell 1).trans (show _ = some (Value.int .i64 n) from rfl)
  have y2 := (hb1.cell 2).trans (show _ = some (Value.int .u64 p) from rfl)
  have y3 := (hb1.cell 3).trans (show _ = some (Value.int .u64 q) from rfl)
  have y4 := (hb1.cell 4).trans (show _ = some (Value.int .i64 r) from rfl)
  have HA1 := Lib.hid hA1
  clear hb1 hA1
  go_wp2_with fail
  (with_reducible refine (hW' _).mono ?_)
  rintro e w2 ⟨A2, rfl, hA2, k2⟩
  clear hW' y0 y1 y2 y3 y4
  have HA2 := Lib.hid hA2
  have K2 := (HB.out.2.trans k1).trans k2
  clear hA2
  go_wp2_with fail
  (with_reducible refine (HO.out _ K2).mono ?_)
  rintro e w3 ⟨rfl, k3⟩
  have kc : Keep [] w3 (w3.alloc (.cells #[.int .i64 a0, .int .i64 a1, .int .u64 a2, .int .u64 a3, .int .i64 a4] 24)) := Keep.alloc _ _
  have K3 := (K2.trans k3).trans kc
  have hC := Blk.new w3 24 #[.int .i64 a0, .int .i64 a1, .int .u64 a2, .int .u64 a3, .int .i64 a4]
  have HC := Lib.hid hC
  clear hC HO
  go_wp2_with fail
  (with_reducible refine (HO'.out _ K3).mono ?_)
  rintro e w4 ⟨rfl, k4⟩
  clear HO'
  have kd : Keep [] w4 (w4.alloc (.cells #[.int .i64 a0, .int .i64 a1, .int .u64 a2, .int .u64 a3, .int .i64 a4] 24)) := Keep.alloc _ _
  have hA1' := HA1.out.keep (((k2.trans k3).trans kc).trans (k4.trans kd))
  have hA2' := HA2.out.keep ((k3.trans kc).trans (k4.trans kd))
  have hSW := rsw_same _ A1 A2 L.length L.length L hA1' hA2'
  have hC := HC.out.keep (k4.trans kd) (by simp)
  have hD := Blk.new w4 24 #[.int .i64 a0, .int .i64 a1, .int .u64 a2, .int .u64 a3, .int .i64 a4]
  have K4 := K3.trans (k4.trans kd)
  have HH := Lib.hid (And.intro hC (And.intro hD K4))
  clear hA1' hA2' HA1 HA2 HC hC hD K3 K2 kc kd k1 k2 k3 k4
  go_wp2_with fail
  (with_reducible refine hSW.mono ?_)
  rintro e w5 ⟨rfl, d5⟩
  clear hSW
  have k5 : Keep [] _ w5 := Keep.dr d5
  have hC := HH.out.1.keep k5 (by simp)
  have hD := HH.out.2.1.keep k5 (by simp)
  have y0 := (hC.cell 0).trans (show _ = some (Value.int .i64 a0) from rfl)
  have y1 := (hC.cell 1).trans (show _ = some (Value.int .i64 a1) from rfl)
  have y2 := (hC.cell 2).trans (show _ = some (Value.int .u64 a2) from rfl)
  have y3 := (hC.cell 3).trans (show _ = some (Value.int .u64 a3) from rfl)
  have y4 := (hC.cell 4).trans (show _ = some (Value.int .i64 a4) from rfl)
  have z0 := (hD.cell 0).trans (show _ = some (Value.int .i64 a0) from rfl)
  have z1 := (hD.cell 1).trans (show _ = some (Value.int .i64 a1) from rfl)
  have z2 := (hD.cell 2).trans (show _ = some (Value.int .u64 a2) from rfl)
  have z3 := (hD.cell 3).trans (show _ = some (Value.int .u64 a3) from rfl)
  have z4 := (hD.cell 4).trans (show _ = some (Value.int .i64 a4) from rfl)
  have hi1 : (i1 == i1) = true := by simp
  have hi2 : (i2 == i2) = true := by simp
  clear hC hD
  go_wp2_with fail
  (with_reducible refine (hS _).mono ?_)
  rintro e w6 ⟨rfl, k6⟩
  clear hS y0 y1 y2 y3 y4 z0 z1 z2 z3 z4
  have K6 := (HH.out.2.2.trans k5).trans k6
  go_wp2_with fail
  (with_reducible refine (HA.out _ K6).mono ?_)
  rintro e w7 ⟨rfl, k7⟩
  go_wp2
  go_ret
  exact ⟨rfl, K6.trans k7⟩
end Go.Proofs.YtjnaglellobmmaaDoor
