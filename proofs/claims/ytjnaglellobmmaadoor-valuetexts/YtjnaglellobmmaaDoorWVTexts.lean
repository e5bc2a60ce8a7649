/-
  The law on a value's text and on a text as a value, walked. Conditions: what the library's tables hold; a text not longer than one may be.
-/
import Derived.Test.YtjnaglellobmmaaDoorVal5
namespace Go.Proofs.YtjnaglellobmmaaDoor
open Go.RowKit Go.Flo
set_option maxRecDepth 100000

set_option maxHeartbeats 4000000 in
theorem walk_vtexts (w : World) (K n p q r : Int) (hv : VOk ⟨K, n, p, q, r⟩) (s : ByteArray) (hs : s.size ≤ 281474976710656) (hT : Tabs w) :
    Calls Tryd.prog 5 #[.agg #[.int .i64 K, .int .i64 n, .int .u64 p, .int .u64 q, .int .i64 r], .string s] w fun e w' => e = .returned (.bool true) ∧ Keep [] w w' := by
  have kb : Keep [] w (w.alloc (.cells #[.int .i64 K, .int .i64 n, .int .u64 p, .int .u64 q, .int .i64 r] 24)) := Keep.alloc _ _
  have hB := Blk.new w 24 #[.int .i64 K, .int .i64 n, .int .u64 p, .int .u64 q, .int .i64 r]
  have hP := fun W (hk : Keep [] w W) => vparse_any s hs W (hT.keep hk)
  have hP' := fun W => rvparse_any s W
  have hX := fun W (hk : Keep [] w W) => vtext_any K n p q r hv W (hT.keep hk)
  have hX' := fun W (hk : Keep [] w W) => rvtext_any K n p q r hv W (hT.keep hk)
  have hV := parseV_kind s
  have hAw := fun W (hk : Keep [] w W) => awake10_any W (hT.keep hk)
  unfold OPost at hP hP'
  generalize (parseV s).isSome = i2 at *
  generalize (parseV s).getD z0 = V at *
  generalize textV ⟨K, n, p, q, r⟩ = S at *
  obtain ⟨a0, a1, a2, a3, a4⟩ := V
  dsimp only at hP hP' hV
  have hS := fun W => rvsame_any a0 a1 a2 a3 a4 a0 a1 a2 a3 a4 W
  rw [sameV_self hV] at hS
  have HP := Lib.hid hP
  have HB := Lib.hid (And.intro hB kb)
  have HX := Lib.hid (And.intro hX (And.intro hX' hAw))
  clear hs hT hP hX hX' hAw hV hB kb hv
  go_enter Tryd.func5, Tryd.ntmps5
  go_wp2_with fail
  (with_reducible refine (HP.out _ HB.out.2).mono ?_)
  rintro e w1 ⟨rfl, k1⟩
  have kc : Keep [] w1 (w1.alloc (.cells #[.int .i64 a0, .int .i64 a1, .int .u64 a2, .int .u64 a3, .int .i64 a4] 24)) := Keep.alloc _ _
  have hC := Blk.new w1 24 #[.int .i64 a0, .int .i64 a1, .int .u64 a2, .int .u64 a3, .int .i64 a4]
  have K1 := (HB.out.2.trans k1).trans kc
  have HC := Lib.hid hC
  clear hC HP
  go_wp2_with fail
  (with_reducible refine (hP' _).mono ?_)
  rintro e w2 ⟨rfl, k2⟩
  clear hP'
  have kd : Keep [] w2 (w2.alloc (.cells #[.int .i64 a0, .int .i64 a1, .int .u64 a2, .int .u64 a3, .int .i64 a4] 24)) := Keep.alloc _ _
  have hD := Blk.new w2 24 #[.int .i64 a0, .int .i64 a1, .int .u64 a2, .int .u64 a3, .int .i64 a4]
  have K2 := K1.trans (k2.trans kd)
  have hb := HB.out.1.keep ((k1.trans kc).trans (k2.trans kd)) (by simp)
  have hc := HC.out.keep (k2.trans kd) (by simp)
  go_wp2_with fail
  generalize w2.alloc (.cells #[.int .i64 a0, .int .i64 a1, .int .u64 a2, .int .u64 a3, .int .i64 a4] 24) = wq at *
  have y0 := (hb.cell 0).trans (show _ = some (Value.int .i64 K) from rfl)
  have y1 := (hb.cell 1).trans (show _ = some (Value.int .i64 n) from rfl)
  have y2 := (hb.cell 2).trans (show _ = some (Value.int .u64 p) from rfl)
  have y3 := (hb.cell 3).trans (show _ = some (Value.int .u64 q) from rfl)
  have y4 := (hb.cell 4).trans (show _ = some (Value.int .i64 r) from rfl)
  have u0 := (hc.cell 0).trans (show _ = some (Value.int .i64 a0) from rfl)
  have u1 := (hc.cell 1).trans (show _ = some (Value.int .i64 a1) from rfl)
  have u2 := (hc.cell 2).trans (show _ = some (Value.int .u64 a2) from rfl)
  have u3 := (hc.cell 3).trans (show _ = some (Value.int .u64 a3) from rfl)
  have u4 := (hc.cell 4).trans (show _ = some (Value.int .i64 a4) from rfl)
  have v0 := (hD.cell 0).trans (show _ = some (Value.int .i64 a0) from rfl)
  have v1 := (hD.cell 1).trans (show _ = some (Value.int .i64 a1) from rfl)
  have v2 := (hD.cell 2).trans (show _ = some (Value.int .u64 a2) from rfl)
  have v3 := (hD.cell 3).trans (show _ = some (Value.int .u64 a3) from rfl)
  have v4 := (hD.cell 4).trans (show _ = some (Value.int .i64 a4) from rfl)
  clear hb hc hD
  have gy0 : ∀ x : KW wq, _ := fun x => KW.cell y0 x
  have gy1 : ∀ x : KW wq, _ := fun x => KW.cell y1 x
  have gy2 : ∀ x : KW wq, _ := fun x => KW.cell y2 x
  have gy3 : ∀ x : KW wq, _ := fun x => KW.cell y3 x
  have gy4 : ∀ x : KW wq, _ := fun x => KW.cell y4 x
  have gu0 : ∀ x : KW wq, _ := fun x => KW.cell u0 x
  have gu1 : ∀ x : KW wq, _ := fun x => KW.cell u1 x
  have gu2 : ∀ x : KW wq, _ := fun x => KW.cell u2 x
  have gu3 : ∀ x : KW wq, _ := fun x => KW.cell u3 x
  have gu4 : ∀ x : KW wq, _ := fun x => KW.cell u4 x
  have gv0 : ∀ x : KW wq, _ := fun x => KW.cell v0 x
  have gv1 : ∀ x : KW wq, _ := fun x => KW.cell v1 x
  have gv2 : ∀ x : KW wq, _ := fun x => KW.cell v2 x
  have gv3 : ∀ x : KW wq, _ := fun x => KW.cell v3 x
  have gv4 : ∀ x : KW wq, _ := fun x => KW.cell v4 x
  clear y0 y1 y2 y3 y4 u0 u1 u2 u3 u4 v0 v1 v2 v3 v4
  have G1 := Lib.hid (fun x : KW wq => KW.call (HX.out.1 x.w (K2.trans x.hk)))
  have G2 := Lib.hid (fun x : KW wq => KW.call (HX.out.2.1 x.w (K2.trans x.hk)))
  have G3 := Lib.hid (fun x : KW wq => KW.call (hS x.w))
  have G4 := Lib.hid (fun x : KW wq => KW.call (HX.out.2.2 x.w (K2.trans x.hk)))
  have hi2 : (i2 == i2) = true := by simp
  have hSS : (S.toList == S.toList) = true := by simp
  clear hS
  refine wp_region_grow (by kernel_rfl) (by kernel_rfl) ?_
  repeat (first | go_big_quiet_skip | (go_big_quiet_want; go_big_quiet_op; first | go_big_quiet_on | go_big_quiet_call ((first | (go_at_call 27; with_reducible exact G1.out _) | (go_at_call 28; with_reducible exact G2.out _) | (go_at_call 18; with_reducible exact G3.out _) | (go_at_call 19; with_reducible exact G4.out _)))))
  refine wpQuiet_nil ?_
  rintro _ ⟨x, rfl⟩
  go_wp2
  go_ret
  exact ⟨rfl, K2.trans x.hk⟩
end Go.Proofs.YtjnaglellobmmaaDoor
