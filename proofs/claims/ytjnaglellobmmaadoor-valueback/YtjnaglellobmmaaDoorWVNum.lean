/-
  The law on numbers laid as a field's words and read, walked. Conditions: what the library's tables hold.
-/
import Derived.Test.YtjnaglellobmmaaDoorVal5
namespace Go.Proofs.YtjnaglellobmmaaDoor
open Go.RowKit Go.Flo
set_option maxRecDepth 100000

theorem wrap_range (x : Int) : 0 ≤ IntKind.u64.wrap x ∧ IntKind.u64.wrap x < 18446744073709551616 := by
  simp [IntKind.wrap, IntKind.bits, IntKind.signed]
  omega

theorem ref_mod (a : Int) : ∃ f : Int, 0 ≤ f ∧ f < 1099511627776 ∧ wrap64 ((IntKind.u64.wrap a).tmod 1099511627776) = f := by
  obtain ⟨h0, h1⟩ := wrap_range a
  generalize IntKind.u64.wrap a = x at *
  refine ⟨x % 1099511627776, by omega, by omega, ?_⟩
  rw [Int.tmod_eq_emod_of_nonneg h0]
  unfold wrap64
  omega

theorem back64 {x : Int} (h0 : -9223372036854775808 ≤ x) (h1 : x ≤ 9223372036854775807) : wrap64 (IntKind.u64.wrap x) = x := by
  simp [IntKind.wrap, IntKind.bits, IntKind.signed]
  unfold wrap64
  omega

set_option maxHeartbeats 2000000 in
theorem core_vnum (w : World) (n x y f : Int) (a b : Nat) (hx : x = a) (hy : y = b) (a3 : Int) (he : wrap64 ((IntKind.u64.wrap a3).tmod 1099511627776) = f) (hf0 : 0 ≤ f) (hf1 : f < 1099511627776) (hn0 : -9223372036854775808 ≤ n) (hn1 : n ≤ 9223372036854775807) (hT : Tabs w) :
    Calls Tryd.prog 9 #[.int .i64 n, .int .u64 x, .int .u64 y, .int .i64 a3] w fun e w' => e = .returned (.bool true) ∧ Keep [] w w' := by
  have hI := fun W => vint_any n W
  have hC := fun W => vcplx_any a b W
  have hR := fun W => vref_any f W
  have hOf : ∀ W, Calls Tryd.prog 12 #[.int .u64 x, .int .u64 y] W fun e w' => e = .returned (.complex .f64 a b) ∧ W = w' := fun W => by
    subst hx hy
    exact rof_any a b W
  have hW1 : ∀ W, Calls Tryd.prog 20 _ W (OneP _ W) := fun W => (vwords_int n 0 0 0 W).mono fun _ _ h => WPost.one h
  have hW2 : ∀ W, Calls Tryd.prog 20 _ W (TwoP _ _ W) := fun W => (vwords_cplx 0 a b 0 W).mono fun _ _ h => WPost.two h
  have hW3 : ∀ W, Calls Tryd.prog 20 _ W (OneP _ W) := fun W => (vwords_ref 0 0 0 f hf0 (by omega) W).mono fun _ _ h => WPost.one h
  have hO1 := fun W b o (hb : b < W.heap.size) hc => vof_int (IntKind.u64.wrap n) b o 1 (by omega) (by omega) W hb hc
  have hO2 := fun W c o (hb : c < W.heap.size) hc hc' => vof_cplx a b c o 2 (by omega) (by omega) W hb hc hc'
  have hO3 := fun W b o (hb : b < W.heap.size) hc => vof_ref (f + 1) (by omega) (by omega) b o 1 (by omega) (by omega) W hb hc
  have e3 : ofV 3 [f + 1] = some ⟨3, 0, 0, 0, f⟩ := by
    rw [ofV_one, if_neg (by decide), if_pos rfl, if_neg (by omega), if_pos (by omega)]
    rw [show f + 1 - 1 = f by omega]
  rw [back64 hn0 hn1] at hO1
  rw [e3] at hO3
  unfold OPost at hO1 hO2 hO3
  simp only [Option.getD_some, Option.isSome_some] at hO1 hO2 hO3
  have hN := fun W => vnum_yes 0 a b 0 W
  simp only [Int.toNat_natCast] at hN
  have hS := fun W => rsame_yes a b W
  have hAw := fun W (hk : Keep [] w W) => awake10_any W (hT.keep hk)
  have HA := Lib.hid hAw
  have HO := Lib.hid (And.intro hO1 (And.intro hO2 hO3))
  clear hO1 hO2 hO3 hAw hT e3 hx hy
  go_enter Tryd.func9, Tryd.ntmps9
  go_wp2_with fail
  (with_reducible refine (hI _).mono ?_)
  rintro e w1 ⟨rfl, k1⟩
  clear hI
  go_wp2_with fail
  (with_reducible refine (hW1 _).mono ?_)
  rintro e w2 ⟨b1, o1, rfl, hb1, hc1, k2⟩
  clear hW1
  have K2 := k1.trans k2
  have C1 := Lib.hid (And.intro hb1 hc1)
  clear hb1 hc1 k1 k2
  go_wp2_with fail
  (with_reducible refine (hOf _).mono ?_)
  rintro e w3 ⟨rfl, rfl⟩
  go_wp2_with fail
  (with_reducible refine (hC _).mono ?_)
  rintro e w3 ⟨rfl, k3⟩
  clear hC
  go_wp2_with fail
  (with_reducible refine (hW2 _).mono ?_)
  rintro e w4 ⟨b2, o2, rfl, hb2, hc2, hd2, k4⟩
  clear hW2
  have K4 := k3.trans k4
  have C2 := Lib.hid (And.intro hb2 (And.intro hc2 hd2))
  clear hb2 hc2 hd2 k3 k4
  go_wp2_with fail
  (with_reducible refine (hR _).mono ?_)
  rintro e w5 ⟨rfl, k5⟩
  clear hR
  go_wp2_with fail
  (with_reducible refine (hW3 _).mono ?_)
  rintro e w6 ⟨b3, o3, rfl, hb3, hc3, k6⟩
  clear hW3
  have K6 := k5.trans k6
  have C3 := Lib.hid (And.intro hb3 hc3)
  clear hb3 hc3 k5 k6
  have hb := Nat.lt_of_lt_of_le C1.out.1 (K4.trans K6).size
  have hc := ((K4.trans K6).cell (p := ⟨b1, o1, none⟩) C1.out.1 (by simp)).trans C1.out.2
  have hO1 := HO.out.1 w6 b1 o1 hb hc
  clear hb hc
  go_wp2_with fail
  (with_reducible refine hO1.mono ?_)
  rintro e w7 ⟨rfl, k7⟩
  clear hO1
  have ka : Keep [] w7 (w7.alloc (.cells #[.int .i64 1, .int .i64 n, .int .u64 0, .int .u64 0, .int .i64 0] 24)) := Keep.alloc _ _
  have hB1 := Blk.new w7 24 #[.int .i64 1, .int .i64 n, .int .u64 0, .int .u64 0, .int .i64 0]
  have K7 := K6.trans (k7.trans ka)
  have hb := Nat.lt_of_lt_of_le C2.out.1 K7.size
  have hc := (K7.cell (p := ⟨b2, o2, none⟩) C2.out.1 (by simp)).trans C2.out.2.1
  have hd := (K7.cell (p := ⟨b2, o2 + 1, none⟩) C2.out.1 (by simp)).trans C2.out.2.2
  have hO2 := HO.out.2.1 _ b2 o2 hb hc hd
  have HB1 := Lib.hid hB1
  clear hb hc hd hB1
  go_wp2_with fail
  (with_reducible refine hO2.mono ?_)
  rintro e w8 ⟨rfl, k8⟩
  clear hO2
  have kb : Keep [] w8 (w8.alloc (.cells #[.int .i64 2, .int .i64 0, .int .u64 a, .int .u64 b, .int .i64 0] 24)) := Keep.alloc _ _
  have hB2 := Blk.new w8 24 #[.int .i64 2, .int .i64 0, .int .u64 a, .int .u64 b, .int .i64 0]
  have K8 := (k7.trans ka).trans (k8.trans kb)
  have hb := Nat.lt_of_lt_of_le C3.out.1 K8.size
  have hc := (K8.cell (p := ⟨b3, o3, none⟩) C3.out.1 (by simp)).trans C3.out.2
  have hO3 := HO.out.2.2 _ b3 o3 hb hc
  have HB2 := Lib.hid hB2
  clear hb hc hB2
  go_wp2_with fail
  (with_reducible refine hO3.mono ?_)
  rintro e w9 ⟨rfl, k9⟩
  clear hO3
  have kc : Keep [] w9 (w9.alloc (.cells #[.int .i64 3, .int .i64 0, .int .u64 0, .int .u64 0, .int .i64 f] 24)) := Keep.alloc _ _
  have hB3 := Blk.new w9 24 #[.int .i64 3, .int .i64 0, .int .u64 0, .int .u64 0, .int .i64 f]
  have K9 := k9.trans kc
  have hD2 := HB2.out.keep K9 (by simp)
  have y0 := (hD2.cell 0).trans (show _ = some (Value.int .i64 2) from rfl)
  have y1 := (hD2.cell 1).trans (show _ = some (Value.int .i64 0) from rfl)
  have y2 := (hD2.cell 2).trans (show _ = some (Value.int .u64 a) from rfl)
  have y3 := (hD2.cell 3).trans (show _ = some (Value.int .u64 b) from rfl)
  have y4 := (hD2.cell 4).trans (show _ = some (Value.int .i64 0) from rfl)
  have HB3 := Lib.hid hB3
  have HD2 := Lib.hid hD2
  have KA := ((K2.trans K4).trans (K7.trans (k8.trans kb))).trans K9
  have hD1 := HB1.out.keep ((k8.trans kb).trans K9) (by simp)
  have HD1 := Lib.hid hD1
  clear hB3 hD2 hD1 HB1 HB2 K2 K4 K6 K7 K8 k7 k8 ka kb C1 C2 C3
  go_wp2_with fail
  (with_reducible refine (hN _).mono ?_)
  rintro e w10 ⟨rfl, k10⟩
  clear hN y0 y1 y2 y3 y4
  have hE1 := HD1.out.keep k10 (by simp)
  have hE3 := HB3.out.keep k10 (by simp)
  have y0 := (hE1.cell 0).trans (show _ = some (Value.int .i64 1) from rfl)
  have y1 := (hE1.cell 1).trans (show _ = some (Value.int .i64 n) from rfl)
  have y2 := (hE1.cell 2).trans (show _ = some (Value.int .u64 0) from rfl)
  have y3 := (hE1.cell 3).trans (show _ = some (Value.int .u64 0) from rfl)
  have y4 := (hE1.cell 4).trans (show _ = some (Value.int .i64 0) from rfl)
  have z0 := (hE3.cell 0).trans (show _ = some (Value.int .i64 3) from rfl)
  have z1 := (hE3.cell 1).trans (show _ = some (Value.int .i64 0) from rfl)
  have z2 := (hE3.cell 2).trans (show _ = some (Value.int .u64 0) from rfl)
  have z3 := (hE3.cell 3).trans (show _ = some (Value.int .u64 0) from rfl)
  have z4 := (hE3.cell 4).trans (show _ = some (Value.int .i64 f) from rfl)
  have KB := KA.trans k10
  clear hE1 hE3
  go_wp2_with fail
  (with_reducible refine (hOf _).mono ?_)
  rintro e w11 ⟨rfl, rfl⟩
  go_wp2_with fail
  (with_reducible refine (hS _).mono ?_)
  rintro e w11 ⟨rfl, rfl⟩
  go_wp2_with fail
  (with_reducible refine (HA.out _ KB).mono ?_)
  rintro e w12 ⟨rfl, k12⟩
  go_wp2
  go_ret
  exact ⟨rfl, KB.trans k12⟩

theorem walk_vnum (w : World) (n x y a3 : Int) (hn : -9223372036854775808 ≤ n ∧ n ≤ 9223372036854775807) (hx : 0 ≤ x) (hy : 0 ≤ y) (hT : Tabs w) :
    Calls Tryd.prog 9 #[.int .i64 n, .int .u64 x, .int .u64 y, .int .i64 a3] w fun e w' => e = .returned (.bool true) ∧ Keep [] w w' := by
  obtain ⟨f, hf0, hf1, he⟩ := ref_mod a3
  exact core_vnum w n x y f x.toNat y.toNat (by omega) (by omega) a3 he hf0 hf1 hn.1 hn.2 hT
end Go.Proofs.YtjnaglellobmmaaDoor
