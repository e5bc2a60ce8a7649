/-
  The law on values' makers and on sameness, walked. Conditions: what the library's tables hold.
-/
import Derived.Test.YtjnaglellobmmaaDoorVal5
namespace Go.Proofs.YtjnaglellobmmaaDoor
open Go.RowKit Go.Flo
set_option maxRecDepth 100000

theorem field_nil (w : World) : (Instr.field 24 (.agg #[.int .i64 0, .int .i64 0, .int .u64 0, .int .u64 0, .int .i64 0]) 0).run Tryd.prog w = .ok (.int .i64 0) w := by kernel_rfl

set_option maxHeartbeats 4000000 in
theorem makes_two (w : World) (n x y r : Int) (a b : Nat) (hx : x = a) (hy : y = b) (n1 p1 q1 r1 K2 n2 p2 q2 r2 : Int) (hT : Tabs w) :
    Calls Tryd.prog 3 #[.int .i64 n, .int .u64 x, .int .u64 y, .int .i64 r, .agg #[.int .i64 2, .int .i64 n1, .int .u64 p1, .int .u64 q1, .int .i64 r1], .agg #[.int .i64 K2, .int .i64 n2, .int .u64 p2, .int .u64 q2, .int .i64 r2]] w fun e w' => e = .returned (.bool true) ∧ Keep [] w w' := by
  have hI := fun W => vint_any n W
  have hC := fun W => vcplx_any a b W
  rw [← hx, ← hy] at hC
  have hR := fun W => vref_any r W
  have hNl := fun W => vnil_any W
  have hOf : ∀ W, Calls Tryd.prog 12 #[.int .u64 x, .int .u64 y] W fun e w' => e = .returned (.complex .f64 a b) ∧ W = w' := fun W => by
    subst hx hy
    exact rof_any a b W
  have hN : ∀ W, Calls Tryd.prog 14 #[.agg #[.int .i64 2, .int .i64 0, .int .u64 x, .int .u64 y, .int .i64 0]] W fun e w' => e = .returned (.tuple #[.complex .f64 a b, .bool true]) ∧ Keep [] W w' := fun W => by
    subst hx hy
    exact vnum_yes 0 a b 0 W
  have hNa := fun W => vnum_yes n1 p1 q1 r1 W
  have hS := fun W => rsame_yes a b W
  have hSa := fun W => rsame_yes p1.toNat q1.toNat W
  have hOa := fun W => rof_any p1 q1 W
  have hV := fun W => vsame_any 2 n1 p1 q1 r1 K2 n2 p2 q2 r2 W
  have hV' := fun W => rvsame_any 2 n1 p1 q1 r1 K2 n2 p2 q2 r2 W
  have hU := fun W => vsame_any 2 n1 p1 q1 r1 2 n1 p1 q1 r1 W
  have hU' := fun W => rvsame_any 2 n1 p1 q1 r1 2 n1 p1 q1 r1 W
  have hAw := fun W (hk : Keep [] w W) => awake10_any W (hT.keep hk)
  generalize sameV ⟨2, n1, p1, q1, r1⟩ ⟨K2, n2, p2, q2, r2⟩ = B at *
  generalize sameV ⟨2, n1, p1, q1, r1⟩ ⟨2, n1, p1, q1, r1⟩ = B2 at *
  have hBB : (B == B) = true := by simp
  have hBB2 : (B2 == B2) = true := by simp
  have kb := (Keep.alloc (own := []) w (.cells #[.int .i64 2, .int .i64 n1, .int .u64 p1, .int .u64 q1, .int .i64 r1] 24)).trans (Keep.alloc _ (.cells #[.int .i64 K2, .int .i64 n2, .int .u64 p2, .int .u64 q2, .int .i64 r2] 24))
  have hb := (Blk.new w 24 #[.int .i64 2, .int .i64 n1, .int .u64 p1, .int .u64 q1, .int .i64 r1]).keep (Keep.alloc (own := []) (w.alloc (.cells #[.int .i64 2, .int .i64 n1, .int .u64 p1, .int .u64 q1, .int .i64 r1] 24)) (.cells #[.int .i64 K2, .int .i64 n2, .int .u64 p2, .int .u64 q2, .int .i64 r2] 24)) (by simp)
  have hc := Blk.new (w.alloc (.cells #[.int .i64 2, .int .i64 n1, .int .u64 p1, .int .u64 q1, .int .i64 r1] 24)) 24 #[.int .i64 K2, .int .i64 n2, .int .u64 p2, .int .u64 q2, .int .i64 r2]
  rw [show (w.alloc (.cells #[.int .i64 2, .int .i64 n1, .int .u64 p1, .int .u64 q1, .int .i64 r1] 24)).heap.size = w.heap.size + 1 by simp] at hc
  have HB := Lib.hid (And.intro hb (And.intro hc kb))
  have HA := Lib.hid hAw
  clear hb hc kb hAw hT hx hy
  go_enter Tryd.func3, Tryd.ntmps3
  go_wp2_with fail
  (with_reducible refine (hI _).mono ?_)
  rintro e w1 ⟨rfl, k1⟩
  clear hI
  go_wp2_with fail
  (with_reducible refine (hOf _).mono ?_)
  rintro e w2 ⟨rfl, rfl⟩
  go_wp2_with fail
  (with_reducible refine (hC _).mono ?_)
  rintro e w2 ⟨rfl, k2⟩
  clear hC
  go_wp2_with fail
  (with_reducible refine (hR _).mono ?_)
  rintro e w3 ⟨rfl, k3⟩
  clear hR
  have hz1 := ((Blk.new w3 24 #[.int .i64 1, .int .i64 n, .int .u64 0, .int .u64 0, .int .i64 0]).keep (Keep.alloc (own := []) _ (.cells #[.int .i64 2, .int .i64 0, .int .u64 x, .int .u64 y, .int .i64 0] 24)) (by simp)).keep (Keep.alloc (own := []) _ (.cells #[.int .i64 3, .int .i64 0, .int .u64 0, .int .u64 0, .int .i64 r] 24)) (by simp)
  have hz2 := (Blk.new (w3.alloc (.cells #[.int .i64 1, .int .i64 n, .int .u64 0, .int .u64 0, .int .i64 0] 24)) 24 #[.int .i64 2, .int .i64 0, .int .u64 x, .int .u64 y, .int .i64 0]).keep (Keep.alloc (own := []) _ (.cells #[.int .i64 3, .int .i64 0, .int .u64 0, .int .u64 0, .int .i64 r] 24)) (by simp)
  have hz3 := Blk.new ((w3.alloc (.cells #[.int .i64 1, .int .i64 n, .int .u64 0, .int .u64 0, .int .i64 0] 24)).alloc (.cells #[.int .i64 2, .int .i64 0, .int .u64 x, .int .u64 y, .int .i64 0] 24)) 24 #[.int .i64 3, .int .i64 0, .int .u64 0, .int .u64 0, .int .i64 r]
  have kz3 := ((Keep.alloc (own := []) w3 (.cells #[.int .i64 1, .int .i64 n, .int .u64 0, .int .u64 0, .int .i64 0] 24)).trans (Keep.alloc _ (.cells #[.int .i64 2, .int .i64 0, .int .u64 x, .int .u64 y, .int .i64 0] 24))).trans (Keep.alloc _ (.cells #[.int .i64 3, .int .i64 0, .int .u64 0, .int .u64 0, .int .i64 r] 24))
  rw [show (w3.alloc (.cells #[.int .i64 1, .int .i64 n, .int .u64 0, .int .u64 0, .int .i64 0] 24)).heap.size = w3.heap.size + 1 by simp] at hz2
  rw [show ((w3.alloc (.cells #[.int .i64 1, .int .i64 n, .int .u64 0, .int .u64 0, .int .i64 0] 24)).alloc (.cells #[.int .i64 2, .int .i64 0, .int .u64 x, .int .u64 y, .int .i64 0] 24)).heap.size = w3.heap.size + 1 + 1 by simp] at hz3
  have K3 := ((k1.trans k2).trans k3).trans kz3
  have HZ := Lib.hid (And.intro hz1 (And.intro hz2 (And.intro hz3 K3)))
  clear hz1 hz2 hz3 kz3 K3 k1 k2 k3
  go_wp2_with fail
  (with_reducible refine (hN _).mono ?_)
  rintro e w4 ⟨rfl, k4⟩
  clear hN
  have hb := HB.out.1.keep (HZ.out.2.2.2.trans k4) (by simp)
  have y0 := (hb.cell 0).trans (show _ = some (Value.int .i64 2) from rfl)
  have y1 := (hb.cell 1).trans (show _ = some (Value.int .i64 n1) from rfl)
  have y2 := (hb.cell 2).trans (show _ = some (Value.int .u64 p1) from rfl)
  have y3 := (hb.cell 3).trans (show _ = some (Value.int .u64 q1) from rfl)
  have y4 := (hb.cell 4).trans (show _ = some (Value.int .i64 r1) from rfl)
  clear hb
  go_wp2_with fail
  (with_reducible refine (hNa _).mono ?_)
  rintro e w5 ⟨rfl, k5⟩
  clear hNa y0 y1 y2 y3 y4
  have k45 := k4.trans k5
  have hb := HB.out.1.keep (HZ.out.2.2.2.trans k45) (by simp)
  have hc := HB.out.2.1.keep (HZ.out.2.2.2.trans k45) (by simp)
  have hz1 := HZ.out.1.keep k45 (by simp)
  have hz2 := HZ.out.2.1.keep k45 (by simp)
  have hz3 := HZ.out.2.2.1.keep k45 (by simp)
  have K5 := HB.out.2.2.trans (HZ.out.2.2.2.trans k45)
  have y0 := (hb.cell 0).trans (show _ = some (Value.int .i64 2) from rfl)
  have y1 := (hb.cell 1).trans (show _ = some (Value.int .i64 n1) from rfl)
  have y2 := (hb.cell 2).trans (show _ = some (Value.int .u64 p1) from rfl)
  have y3 := (hb.cell 3).trans (show _ = some (Value.int .u64 q1) from rfl)
  have y4 := (hb.cell 4).trans (show _ = some (Value.int .i64 r1) from rfl)
  have HM := Lib.hid (And.intro hc (And.intro hz1 (And.intro hz2 (And.intro hz3 K5))))
  clear hb hc hz1 hz2 hz3 K5 k45 k4 k5
  go_wp2_with fail
  (with_reducible refine (hOf _).mono ?_)
  rintro e w6 ⟨rfl, rfl⟩
  go_wp2_with fail
  (with_reducible refine (hS _).mono ?_)
  rintro e w6 ⟨rfl, rfl⟩
  go_wp2_with fail
  (with_reducible refine (hOa _).mono ?_)
  rintro e w6 ⟨rfl, rfl⟩
  go_wp2_with fail
  (with_reducible refine (hSa _).mono ?_)
  rintro e w6 ⟨rfl, rfl⟩
  clear hOa hSa hOf hS
  go_wp2_with fail
  obtain ⟨hc, hz1, hz2, hz3, K5⟩ := HM.out
  have u0 := (hc.cell 0).trans (show _ = some (Value.int .i64 K2) from rfl)
  have u1 := (hc.cell 1).trans (show _ = some (Value.int .i64 n2) from rfl)
  have u2 := (hc.cell 2).trans (show _ = some (Value.int .u64 p2) from rfl)
  have u3 := (hc.cell 3).trans (show _ = some (Value.int .u64 q2) from rfl)
  have u4 := (hc.cell 4).trans (show _ = some (Value.int .i64 r2) from rfl)
  have s0 := (hz1.cell 0).trans (show _ = some (Value.int .i64 1) from rfl)
  have s1 := (hz1.cell 1).trans (show _ = some (Value.int .i64 n) from rfl)
  have s2 := (hz1.cell 2).trans (show _ = some (Value.int .u64 0) from rfl)
  have s3 := (hz1.cell 3).trans (show _ = some (Value.int .u64 0) from rfl)
  have s4 := (hz1.cell 4).trans (show _ = some (Value.int .i64 0) from rfl)
  have t0 := (hz2.cell 0).trans (show _ = some (Value.int .i64 2) from rfl)
  have t1 := (hz2.cell 1).trans (show _ = some (Value.int .i64 0) from rfl)
  have t2 := (hz2.cell 2).trans (show _ = some (Value.int .u64 x) from rfl)
  have t3 := (hz2.cell 3).trans (show _ = some (Value.int .u64 y) from rfl)
  have t4 := (hz2.cell 4).trans (show _ = some (Value.int .i64 0) from rfl)
  have v0 := (hz3.cell 0).trans (show _ = some (Value.int .i64 3) from rfl)
  have v1 := (hz3.cell 1).trans (show _ = some (Value.int .i64 0) from rfl)
  have v2 := (hz3.cell 2).trans (show _ = some (Value.int .u64 0) from rfl)
  have v3 := (hz3.cell 3).trans (show _ = some (Value.int .u64 0) from rfl)
  have v4 := (hz3.cell 4).trans (show _ = some (Value.int .i64 r) from rfl)
  generalize w3.heap.size = A3 at *
  clear hc hz1 hz2 hz3 HM HZ HB
  have gy0 : ∀ x : KW w5, _ := fun x => KW.cell y0 x
  have gy1 : ∀ x : KW w5, _ := fun x => KW.cell y1 x
  have gy2 : ∀ x : KW w5, _ := fun x => KW.cell y2 x
  have gy3 : ∀ x : KW w5, _ := fun x => KW.cell y3 x
  have gy4 : ∀ x : KW w5, _ := fun x => KW.cell y4 x
  have gu0 : ∀ x : KW w5, _ := fun x => KW.cell u0 x
  have gu1 : ∀ x : KW w5, _ := fun x => KW.cell u1 x
  have gu2 : ∀ x : KW w5, _ := fun x => KW.cell u2 x
  have gu3 : ∀ x : KW w5, _ := fun x => KW.cell u3 x
  have gu4 : ∀ x : KW w5, _ := fun x => KW.cell u4 x
  have gs0 : ∀ x : KW w5, _ := fun x => KW.cell s0 x
  have gs1 : ∀ x : KW w5, _ := fun x => KW.cell s1 x
  have gs2 : ∀ x : KW w5, _ := fun x => KW.cell s2 x
  have gs3 : ∀ x : KW w5, _ := fun x => KW.cell s3 x
  have gs4 : ∀ x : KW w5, _ := fun x => KW.cell s4 x
  have gt0 : ∀ x : KW w5, _ := fun x => KW.cell t0 x
  have gt1 : ∀ x : KW w5, _ := fun x => KW.cell t1 x
  have gt2 : ∀ x : KW w5, _ := fun x => KW.cell t2 x
  have gt3 : ∀ x : KW w5, _ := fun x => KW.cell t3 x
  have gt4 : ∀ x : KW w5, _ := fun x => KW.cell t4 x
  have gv0 : ∀ x : KW w5, _ := fun x => KW.cell v0 x
  have gv1 : ∀ x : KW w5, _ := fun x => KW.cell v1 x
  have gv2 : ∀ x : KW w5, _ := fun x => KW.cell v2 x
  have gv3 : ∀ x : KW w5, _ := fun x => KW.cell v3 x
  have gv4 : ∀ x : KW w5, _ := fun x => KW.cell v4 x
  clear y0 y1 y2 y3 y4 u0 u1 u2 u3 u4 s0 s1 s2 s3 s4 t0 t1 t2 t3 t4 v0 v1 v2 v3 v4
  have G1 := Lib.hid (fun x : KW w5 => KW.call (hNl x.w))
  have G2 := Lib.hid (fun x : KW w5 => KW.call (hV x.w))
  have G3 := Lib.hid (fun x : KW w5 => KW.call (hV' x.w))
  have G4 := Lib.hid (fun x : KW w5 => KW.call (hU x.w))
  have G5 := Lib.hid (fun x : KW w5 => KW.call (hU' x.w))
  have G6 := Lib.hid (fun x : KW w5 => KW.call (HA.out x.w (K5.trans x.hk)))
  have hFld := field_nil
  clear hNl hV hV' hU hU'
  refine wp_region_grow (by kernel_rfl) (by kernel_rfl) ?_
  repeat (first | go_big_quiet_skip | (go_big_quiet_want; go_big_quiet_op; first | go_big_quiet_on | go_big_quiet_call ((first | (go_at_call 16; with_reducible exact G1.out _) | (go_at_call 17; first | with_reducible exact G4.out _ | with_reducible exact G2.out _) | (go_at_call 18; first | with_reducible exact G5.out _ | with_reducible exact G3.out _) | (go_at_call 19; with_reducible exact G6.out _)))))
  refine wpQuiet_nil ?_
  rintro _ ⟨x, rfl⟩
  go_wp2
  go_ret
  exact ⟨rfl, K5.trans x.hk⟩

set_option maxHeartbeats 4000000 in
theorem makes_else (w : World) (n x y r : Int) (a b : Nat) (hx : x = a) (hy : y = b) (K1 n1 p1 q1 r1 K2 n2 p2 q2 r2 : Int) (hK : ¬ K1 = 2) (hT : Tabs w) :
    Calls Tryd.prog 3 #[.int .i64 n, .int .u64 x, .int .u64 y, .int .i64 r, .agg #[.int .i64 K1, .int .i64 n1, .int .u64 p1, .int .u64 q1, .int .i64 r1], .agg #[.int .i64 K2, .int .i64 n2, .int .u64 p2, .int .u64 q2, .int .i64 r2]] w fun e w' => e = .returned (.bool true) ∧ Keep [] w w' := by
  have hI := fun W => vint_any n W
  have hC := fun W => vcplx_any a b W
  rw [← hx, ← hy] at hC
  have hR := fun W => vref_any r W
  have hNl := fun W => vnil_any W
  have hOf : ∀ W, Calls Tryd.prog 12 #[.int .u64 x, .int .u64 y] W fun e w' => e = .returned (.complex .f64 a b) ∧ W = w' := fun W => by
    subst hx hy
    exact rof_any a b W
  have hN : ∀ W, Calls Tryd.prog 14 #[.agg #[.int .i64 2, .int .i64 0, .int .u64 x, .int .u64 y, .int .i64 0]] W fun e w' => e = .returned (.tuple #[.complex .f64 a b, .bool true]) ∧ Keep [] W w' := fun W => by
    subst hx hy
    exact vnum_yes 0 a b 0 W
  have hNa := fun W => vnum_no K1 n1 p1 q1 r1 hK W
  have hS := fun W => rsame_yes a b W
  have hSa := fun W => rsame_yes 0 0 W
  have hOa := fun W => rof_any p1 q1 W
  have hV := fun W => vsame_any K1 n1 p1 q1 r1 K2 n2 p2 q2 r2 W
  have hV' := fun W => rvsame_any K1 n1 p1 q1 r1 K2 n2 p2 q2 r2 W
  have hU := fun W => vsame_any K1 n1 p1 q1 r1 K1 n1 p1 q1 r1 W
  have hU' := fun W => rvsame_any K1 n1 p1 q1 r1 K1 n1 p1 q1 r1 W
  have hAw := fun W (hk : Keep [] w W) => awake10_any W (hT.keep hk)
  generalize sameV ⟨K1, n1, p1, q1, r1⟩ ⟨K2, n2, p2, q2, r2⟩ = B at *
  generalize sameV ⟨K1, n1, p1, q1, r1⟩ ⟨K1, n1, p1, q1, r1⟩ = B2 at *
  have hBB : (B == B) = true := by simp
  have hBB2 : (B2 == B2) = true := by simp
  have kb := (Keep.alloc (own := []) w (.cells #[.int .i64 K1, .int .i64 n1, .int .u64 p1, .int .u64 q1, .int .i64 r1] 24)).trans (Keep.alloc _ (.cells #[.int .i64 K2, .int .i64 n2, .int .u64 p2, .int .u64 q2, .int .i64 r2] 24))
  have hb := (Blk.new w 24 #[.int .i64 K1, .int .i64 n1, .int .u64 p1, .int .u64 q1, .int .i64 r1]).keep (Keep.alloc (own := []) (w.alloc (.cells #[.int .i64 K1, .int .i64 n1, .int .u64 p1, .int .u64 q1, .int .i64 r1] 24)) (.cells #[.int .i64 K2, .int .i64 n2, .int .u64 p2, .int .u64 q2, .int .i64 r2] 24)) (by simp)
  have hc := Blk.new (w.alloc (.cells #[.int .i64 K1, .int .i64 n1, .int .u64 p1, .int .u64 q1, .int .i64 r1] 24)) 24 #[.int .i64 K2, .int .i64 n2, .int .u64 p2, .int .u64 q2, .int .i64 r2]
  rw [show (w.alloc (.cells #[.int .i64 K1, .int .i64 n1, .int .u64 p1, .int .u64 q1, .int .i64 r1] 24)).heap.size = w.heap.size + 1 by simp] at hc
  have HB := Lib.hid (And.intro hb (And.intro hc kb))
  have HA := Lib.hid hAw
  clear hb hc kb hAw hT hx hy
  go_enter Tryd.func3, Tryd.ntmps3
  go_wp2_with fail
  (with_reducible refine (hI _).mono ?_)
  rintro e w1 ⟨rfl, k1⟩
  clear hI
  go_wp2_with fail
  (with_reducible refine (hOf _).mono ?_)
  rintro e w2 ⟨rfl, rfl⟩
  go_wp2_with fail
  (with_reducible refine (hC _).mono ?_)
  rintro e w2 ⟨rfl, k2⟩
  clear hC
  go_wp2_with fail
  (with_reducible refine (hR _).mono ?_)
  rintro e w3 ⟨rfl, k3⟩
  clear hR
  have hz1 := ((Blk.new w3 24 #[.int .i64 1, .int .i64 n, .int .u64 0, .int .u64 0, .int .i64 0]).keep (Keep.alloc (own := []) _ (.cells #[.int .i64 2, .int .i64 0, .int .u64 x, .int .u64 y, .int .i64 0] 24)) (by simp)).keep (Keep.alloc (own := []) _ (.cells #[.int .i64 3, .int .i64 0, .int .u64 0, .int .u64 0, .int .i64 r] 24)) (by simp)
  have hz2 := (Blk.new (w3.alloc (.cells #[.int .i64 1, .int .i64 n, .int .u64 0, .int .u64 0, .int .i64 0] 24)) 24 #[.int .i64 2, .int .i64 0, .int .u64 x, .int .u64 y, .int .i64 0]).keep (Keep.alloc (own := []) _ (.cells #[.int .i64 3, .int .i64 0, .int .u64 0, .int .u64 0, .int .i64 r] 24)) (by simp)
  have hz3 := Blk.new ((w3.alloc (.cells #[.int .i64 1, .int .i64 n, .int .u64 0, .int .u64 0, .int .i64 0] 24)).alloc (.cells #[.int .i64 2, .int .i64 0, .int .u64 x, .int .u64 y, .int .i64 0] 24)) 24 #[.int .i64 3, .int .i64 0, .int .u64 0, .int .u64 0, .int .i64 r]
  have kz3 := ((Keep.alloc (own := []) w3 (.cells #[.int .i64 1, .int .i64 n, .int .u64 0, .int .u64 0, .int .i64 0] 24)).trans (Keep.alloc _ (.cells #[.int .i64 2, .int .i64 0, .int .u64 x, .int .u64 y, .int .i64 0] 24))).trans (Keep.alloc _ (.cells #[.int .i64 3, .int .i64 0, .int .u64 0, .int .u64 0, .int .i64 r] 24))
  rw [show (w3.alloc (.cells #[.int .i64 1, .int .i64 n, .int .u64 0, .int .u64 0, .int .i64 0] 24)).heap.size = w3.heap.size + 1 by simp] at hz2
  rw [show ((w3.alloc (.cells #[.int .i64 1, .int .i64 n, .int .u64 0, .int .u64 0, .int .i64 0] 24)).alloc (.cells #[.int .i64 2, .int .i64 0, .int .u64 x, .int .u64 y, .int .i64 0] 24)).heap.size = w3.heap.size + 1 + 1 by simp] at hz3
  have K3 := ((k1.trans k2).trans k3).trans kz3
  have HZ := Lib.hid (And.intro hz1 (And.intro hz2 (And.intro hz3 K3)))
  clear hz1 hz2 hz3 kz3 K3 k1 k2 k3
  go_wp2_with fail
  (with_reducible refine (hN _).mono ?_)
  rintro e w4 ⟨rfl, k4⟩
  clear hN
  have hb := HB.out.1.keep (HZ.out.2.2.2.trans k4) (by simp)
  have y0 := (hb.cell 0).trans (show _ = some (Value.int .i64 K1) from rfl)
  have y1 := (hb.cell 1).trans (show _ = some (Value.int .i64 n1) from rfl)
  have y2 := (hb.cell 2).trans (show _ = some (Value.int .u64 p1) from rfl)
  have y3 := (hb.cell 3).trans (show _ = some (Value.int .u64 q1) from rfl)
  have y4 := (hb.cell 4).trans (show _ = some (Value.int .i64 r1) from rfl)
  clear hb
  go_wp2_with fail
  (with_reducible refine (hNa _).mono ?_)
  rintro e w5 ⟨rfl, k5⟩
  clear hNa y0 y1 y2 y3 y4
  have k45 := k4.trans k5
  have hb := HB.out.1.keep (HZ.out.2.2.2.trans k45) (by simp)
  have hc := HB.out.2.1.keep (HZ.out.2.2.2.trans k45) (by simp)
  have hz1 := HZ.out.1.keep k45 (by simp)
  have hz2 := HZ.out.2.1.keep k45 (by simp)
  have hz3 := HZ.out.2.2.1.keep k45 (by simp)
  have K5 := HB.out.2.2.trans (HZ.out.2.2.2.trans k45)
  have y0 := (hb.cell 0).trans (show _ = some (Value.int .i64 K1) from rfl)
  have y1 := (hb.cell 1).trans (show _ = some (Value.int .i64 n1) from rfl)
  have y2 := (hb.cell 2).trans (show _ = some (Value.int .u64 p1) from rfl)
  have y3 := (hb.cell 3).trans (show _ = some (Value.int .u64 q1) from rfl)
  have y4 := (hb.cell 4).trans (show _ = some (Value.int .i64 r1) from rfl)
  have HM := Lib.hid (And.intro hc (And.intro hz1 (And.intro hz2 (And.intro hz3 K5))))
  clear hb hc hz1 hz2 hz3 K5 k45 k4 k5
  go_wp2_with fail
  (with_reducible refine (hOf _).mono ?_)
  rintro e w6 ⟨rfl, rfl⟩
  go_wp2_with fail
  (with_reducible refine (hS _).mono ?_)
  rintro e w6 ⟨rfl, rfl⟩
  go_wp2_with fail
  (with_reducible refine (hSa _).mono ?_)
  rintro e w6 ⟨rfl, rfl⟩
  clear hOa hSa hOf hS
  go_wp2_with fail
  obtain ⟨hc, hz1, hz2, hz3, K5⟩ := HM.out
  have u0 := (hc.cell 0).trans (show _ = some (Value.int .i64 K2) from rfl)
  have u1 := (hc.cell 1).trans (show _ = some (Value.int .i64 n2) from rfl)
  have u2 := (hc.cell 2).trans (show _ = some (Value.int .u64 p2) from rfl)
  have u3 := (hc.cell 3).trans (show _ = some (Value.int .u64 q2) from rfl)
  have u4 := (hc.cell 4).trans (show _ = some (Value.int .i64 r2) from rfl)
  have s0 := (hz1.cell 0).trans (show _ = some (Value.int .i64 1) from rfl)
  have s1 := (hz1.cell 1).trans (show _ = some (Value.int .i64 n) from rfl)
  have s2 := (hz1.cell 2).trans (show _ = some (Value.int .u64 0) from rfl)
  have s3 := (hz1.cell 3).trans (show _ = some (Value.int .u64 0) from rfl)
  have s4 := (hz1.cell 4).trans (show _ = some (Value.int .i64 0) from rfl)
  have t0 := (hz2.cell 0).trans (show _ = some (Value.int .i64 2) from rfl)
  have t1 := (hz2.cell 1).trans (show _ = some (Value.int .i64 0) from rfl)
  have t2 := (hz2.cell 2).trans (show _ = some (Value.int .u64 x) from rfl)
  have t3 := (hz2.cell 3).trans (show _ = some (Value.int .u64 y) from rfl)
  have t4 := (hz2.cell 4).trans (show _ = some (Value.int .i64 0) from rfl)
  have v0 := (hz3.cell 0).trans (show _ = some (Value.int .i64 3) from rfl)
  have v1 := (hz3.cell 1).trans (show _ = some (Value.int .i64 0) from rfl)
  have v2 := (hz3.cell 2).trans (show _ = some (Value.int .u64 0) from rfl)
  have v3 := (hz3.cell 3).trans (show _ = some (Value.int .u64 0) from rfl)
  have v4 := (hz3.cell 4).trans (show _ = some (Value.int .i64 r) from rfl)
  generalize w3.heap.size = A3 at *
  clear hc hz1 hz2 hz3 HM HZ HB
  have gy0 : ∀ x : KW w5, _ := fun x => KW.cell y0 x
  have gy1 : ∀ x : KW w5, _ := fun x => KW.cell y1 x
  have gy2 : ∀ x : KW w5, _ := fun x => KW.cell y2 x
  have gy3 : ∀ x : KW w5, _ := fun x => KW.cell y3 x
  have gy4 : ∀ x : KW w5, _ := fun x => KW.cell y4 x
  have gu0 : ∀ x : KW w5, _ := fun x => KW.cell u0 x
  have gu1 : ∀ x : KW w5, _ := fun x => KW.cell u1 x
  have gu2 : ∀ x : KW w5, _ := fun x => KW.cell u2 x
  have gu3 : ∀ x : KW w5, _ := fun x => KW.cell u3 x
  have gu4 : ∀ x : KW w5, _ := fun x => KW.cell u4 x
  have gs0 : ∀ x : KW w5, _ := fun x => KW.cell s0 x
  have gs1 : ∀ x : KW w5, _ := fun x => KW.cell s1 x
  have gs2 : ∀ x : KW w5, _ := fun x => KW.cell s2 x
  have gs3 : ∀ x : KW w5, _ := fun x => KW.cell s3 x
  have gs4 : ∀ x : KW w5, _ := fun x => KW.cell s4 x
  have gt0 : ∀ x : KW w5, _ := fun x => KW.cell t0 x
  have gt1 : ∀ x : KW w5, _ := fun x => KW.cell t1 x
  have gt2 : ∀ x : KW w5, _ := fun x => KW.cell t2 x
  have gt3 : ∀ x : KW w5, _ := fun x => KW.cell t3 x
  have gt4 : ∀ x : KW w5, _ := fun x => KW.cell t4 x
  have gv0 : ∀ x : KW w5, _ := fun x => KW.cell v0 x
  have gv1 : ∀ x : KW w5, _ := fun x => KW.cell v1 x
  have gv2 : ∀ x : KW w5, _ := fun x => KW.cell v2 x
  have gv3 : ∀ x : KW w5, _ := fun x => KW.cell v3 x
  have gv4 : ∀ x : KW w5, _ := fun x => KW.cell v4 x
  clear y0 y1 y2 y3 y4 u0 u1 u2 u3 u4 s0 s1 s2 s3 s4 t0 t1 t2 t3 t4 v0 v1 v2 v3 v4
  have G1 := Lib.hid (fun x : KW w5 => KW.call (hNl x.w))
  have G2 := Lib.hid (fun x : KW w5 => KW.call (hV x.w))
  have G3 := Lib.hid (fun x : KW w5 => KW.call (hV' x.w))
  have G4 := Lib.hid (fun x : KW w5 => KW.call (hU x.w))
  have G5 := Lib.hid (fun x : KW w5 => KW.call (hU' x.w))
  have G6 := Lib.hid (fun x : KW w5 => KW.call (HA.out x.w (K5.trans x.hk)))
  have hFld := field_nil
  clear hNl hV hV' hU hU'
  refine wp_region_grow (by kernel_rfl) (by kernel_rfl) ?_
  repeat (first | go_big_quiet_skip | (go_big_quiet_want; go_big_quiet_op; first | go_big_quiet_on | go_big_quiet_call ((first | (go_at_call 16; with_reducible exact G1.out _) | (go_at_call 17; first | with_reducible exact G4.out _ | with_reducible exact G2.out _) | (go_at_call 18; first | with_reducible exact G5.out _ | with_reducible exact G3.out _) | (go_at_call 19; with_reducible exact G6.out _)))))
  refine wpQuiet_nil ?_
  rintro _ ⟨x, rfl⟩
  go_wp2
  go_ret
  exact ⟨rfl, K5.trans x.hk⟩

theorem walk_vmakes (w : World) (n x y r : Int) (hx : 0 ≤ x) (hy : 0 ≤ y) (K1 n1 p1 q1 r1 K2 n2 p2 q2 r2 : Int) (hT : Tabs w) :
    Calls Tryd.prog 3 #[.int .i64 n, .int .u64 x, .int .u64 y, .int .i64 r, .agg #[.int .i64 K1, .int .i64 n1, .int .u64 p1, .int .u64 q1, .int .i64 r1], .agg #[.int .i64 K2, .int .i64 n2, .int .u64 p2, .int .u64 q2, .int .i64 r2]] w fun e w' => e = .returned (.bool true) ∧ Keep [] w w' := by
  by_cases h : K1 = 2
  · subst h
    exact makes_two w n x y r x.toNat y.toNat (by omega) (by omega) n1 p1 q1 r1 K2 n2 p2 q2 r2 hT
  · exact makes_else w n x y r x.toNat y.toNat (by omega) (by omega) K1 n1 p1 q1 r1 K2 n2 p2 q2 r2 h hT
end Go.Proofs.YtjnaglellobmmaaDoor
