/-
  The law that what is written is read as it was, words and texts, walked. Conditions: what the library's tables hold.
-/
import Derived.Test.YtjnaglellobmmaaDoorWVNum
namespace Go.Proofs.YtjnaglellobmmaaDoor
open Go.RowKit Go.Flo
set_option maxRecDepth 100000

theorem textV_size {v : Val} (hv : VOk v) : (textV v).size ≤ 281474976710656 := by
  unfold textV
  split
  · show nilB.size ≤ _
    have : nilB.size = 3 := rfl
    omega
  split
  · have : (itoaB v.n).size ≤ 21 := Lib.itoa_length_le v.n hv.n0 hv.n1
    omega
  split
  · rw [ByteArray.size_append, textB_size]
    have : ({ data := #[99] } : ByteArray).size = 1 := rfl
    omega
  split
  · have : (itoaB v.r).size ≤ 21 := Lib.itoa_length_le v.r hv.r0 hv.r1
    rw [ByteArray.size_append]
    have : ({ data := #[35] } : ByteArray).size = 1 := rfl
    omega
  · have : ({ data := #[] } : ByteArray).size = 0 := rfl
    omega

set_option maxHeartbeats 2000000 in
theorem back_no (w : World) (K n p q r : Int) (h : ¬ Kind4 K) (hv : VOk ⟨K, n, p, q, r⟩) (hT : Tabs w) :
    Calls Tryd.prog 6 #[.agg #[.int .i64 K, .int .i64 n, .int .u64 p, .int .u64 q, .int .i64 r]] w fun e w' => e = .returned (.bool true) ∧ Keep [] w w' := by
  have kb : Keep [] w (w.alloc (.cells #[.int .i64 K, .int .i64 n, .int .u64 p, .int .u64 q, .int .i64 r] 24)) := Keep.alloc _ _
  have hB := Blk.new w 24 #[.int .i64 K, .int .i64 n, .int .u64 p, .int .u64 q, .int .i64 r]
  have hX := fun W (hk : Keep [] w W) => vtext_any K n p q r hv W (hT.keep hk)
  have e : textV ⟨K, n, p, q, r⟩ = { data := #[] } := by
    unfold Kind4 at h
    unfold textV
    dsimp only
    rw [if_neg (by omega), if_neg (by omega), if_neg (by omega), if_neg (by omega)]
  rw [e] at hX
  have hS := fun W => vsame_any K n p q r K n p q r W
  rw [sameV_none (v := ⟨K, n, p, q, r⟩) h] at hS
  have hAw := fun W (hk : Keep [] w W) => awake10_any W (hT.keep hk)
  have HB := Lib.hid (And.intro hB kb)
  have HX := Lib.hid (And.intro hX hAw)
  have hc : K < 0 ∨ (0 ≤ K ∧ 3 < K) := by unfold Kind4 at h; omega
  clear hB kb hX hAw e hv hT h
  rcases hc with h | ⟨h, h1⟩
  all_goals
    go_enter Tryd.func6, Tryd.ntmps6
    go_wp2_with fail
    (with_reducible refine (HX.out.1 _ HB.out.2).mono ?_)
    rintro e w1 ⟨rfl, k1⟩
    have hb := HB.out.1.keep k1 (by simp)
    have y0 := (hb.cell 0).trans (show _ = some (Value.int .i64 K) from rfl)
    have y1 := (hb.cell 1).trans (show _ = some (Value.int .i64 n) from rfl)
    have y2 := (hb.cell 2).trans (show _ = some (Value.int .u64 p) from rfl)
    have y3 := (hb.cell 3).trans (show _ = some (Value.int .u64 q) from rfl)
    have y4 := (hb.cell 4).trans (show _ = some (Value.int .i64 r) from rfl)
    have K1 := HB.out.2.trans k1
    clear hb
    go_wp2_with fail
    (with_reducible refine (hS _).mono ?_)
    rintro e w2 ⟨rfl, k2⟩
    go_wp2_with fail
    (with_reducible refine (HX.out.2 _ (K1.trans k2)).mono ?_)
    rintro e w3 ⟨rfl, k3⟩
    go_wp2
    go_ret
    exact ⟨rfl, (K1.trans k2).trans k3⟩

set_option maxHeartbeats 2000000 in
theorem back_nil (w : World) (n p q r : Int) (hv : VOk ⟨0, n, p, q, r⟩) (hT : Tabs w) :
    Calls Tryd.prog 6 #[.agg #[.int .i64 0, .int .i64 n, .int .u64 p, .int .u64 q, .int .i64 r]] w fun e w' => e = .returned (.bool true) ∧ Keep [] w w' := by
  have kb : Keep [] w (w.alloc (.cells #[.int .i64 0, .int .i64 n, .int .u64 p, .int .u64 q, .int .i64 r] 24)) := Keep.alloc _ _
  have hB := Blk.new w 24 #[.int .i64 0, .int .i64 n, .int .u64 p, .int .u64 q, .int .i64 r]
  have hX := fun W (hk : Keep [] w W) => vtext_any 0 n p q r hv W (hT.keep hk)
  have hP := fun W (hk : Keep [] w W) => vparse_any (textV ⟨0, n, p, q, r⟩) (textV_size hv) W (hT.keep hk)
  rw [parse_textV (v := ⟨0, n, p, q, r⟩) (Or.inl rfl) hv, show plainV ⟨0, n, p, q, r⟩ = ⟨0, 0, 0, 0, 0⟩ from rfl] at hP
  unfold OPost at hP
  simp only [Option.getD_some, Option.isSome_some] at hP
  generalize textV ⟨0, n, p, q, r⟩ = S at *
  have hS := fun W => vsame_any 0 0 0 0 0 0 n p q r W
  rw [sameV_symm, show sameV ⟨0, n, p, q, r⟩ ⟨0, 0, 0, 0, 0⟩ = true from sameV_plain (v := ⟨0, n, p, q, r⟩) (Or.inl rfl)] at hS
  have hAw := fun W (hk : Keep [] w W) => awake10_any W (hT.keep hk)
  have hW : ∀ W, Calls Tryd.prog 20 _ W (OneP _ W) := fun W => (vwords_nil n p q r W).mono fun _ _ h => WPost.one h
  have hO := fun W b o (hb : b < W.heap.size) hc => vof_ref 0 (by omega) (by omega) b o 1 (by omega) (by omega) W hb hc
  have e3 : ofV 3 [0] = some ⟨0, 0, 0, 0, 0⟩ := rfl
  rw [e3] at hO
  unfold OPost at hO
  simp only [Option.getD_some, Option.isSome_some] at hO
  have HO := Lib.hid hO
  clear hO
  have HB := Lib.hid (And.intro hB kb)
  have HX := Lib.hid (And.intro hX (And.intro hP hAw))
  clear hB kb hX hP hAw hv hT
  go_enter Tryd.func6, Tryd.ntmps6
  go_wp2_with fail
  (with_reducible refine (HX.out.1 _ HB.out.2).mono ?_)
  rintro e w1 ⟨rfl, k1⟩
  go_wp2_with fail
  (with_reducible refine (HX.out.2.1 _ (HB.out.2.trans k1)).mono ?_)
  rintro e w2 ⟨rfl, k2⟩
  have ka : Keep [] w2 (w2.alloc (.cells #[.int .i64 0, .int .i64 0, .int .u64 0, .int .u64 0, .int .i64 0] 24)) := Keep.alloc _ _
  have k12 := (k1.trans k2).trans ka
  have hb := HB.out.1.keep k12 (by simp)
  have hp := Blk.new w2 24 #[.int .i64 0, .int .i64 0, .int .u64 0, .int .u64 0, .int .i64 0]
  have y0 := (hb.cell 0).trans (show _ = some (Value.int .i64 0) from rfl)
  have y1 := (hb.cell 1).trans (show _ = some (Value.int .i64 n) from rfl)
  have y2 := (hb.cell 2).trans (show _ = some (Value.int .u64 p) from rfl)
  have y3 := (hb.cell 3).trans (show _ = some (Value.int .u64 q) from rfl)
  have y4 := (hb.cell 4).trans (show _ = some (Value.int .i64 r) from rfl)
  have HP := Lib.hid hp
  clear hb hp k1 k2 ka
  go_wp2_with fail
  (with_reducible refine (hS _).mono ?_)
  rintro e w3 ⟨rfl, k3⟩
  clear y0 y1 y2 y3 y4
  have k13 := k12.trans k3
  have hb := HB.out.1.keep k13 (by simp)
  have y0 := (hb.cell 0).trans (show _ = some (Value.int .i64 0) from rfl)
  have y1 := (hb.cell 1).trans (show _ = some (Value.int .i64 n) from rfl)
  have y2 := (hb.cell 2).trans (show _ = some (Value.int .u64 p) from rfl)
  have y3 := (hb.cell 3).trans (show _ = some (Value.int .u64 q) from rfl)
  have y4 := (hb.cell 4).trans (show _ = some (Value.int .i64 r) from rfl)
  clear hb k12 k3
  go_wp2_with fail
  (with_reducible refine (hW _).mono ?_)
  rintro e w4 ⟨b, o, rfl, hb4, hc4, k4⟩
  clear hW y0 y1 y2 y3 y4
  have hO := HO.out w4 b o hb4 hc4
  have k14 := k13.trans k4
  clear HO hb4 hc4 k13 k4
  go_wp2_with fail
  (with_reducible refine hO.mono ?_)
  rintro e w5 ⟨rfl, k5⟩
  clear hO
  have kc : Keep [] w5 (w5.alloc (.cells #[.int .i64 0, .int .i64 0, .int .u64 0, .int .u64 0, .int .i64 0] 24)) := Keep.alloc _ _
  have k15 := (k14.trans k5).trans kc
  have hb := HB.out.1.keep k15 (by simp)
  have KA := HB.out.2.trans k15
  have y0 := (hb.cell 0).trans (show _ = some (Value.int .i64 0) from rfl)
  have y1 := (hb.cell 1).trans (show _ = some (Value.int .i64 n) from rfl)
  have y2 := (hb.cell 2).trans (show _ = some (Value.int .u64 p) from rfl)
  have y3 := (hb.cell 3).trans (show _ = some (Value.int .u64 q) from rfl)
  have y4 := (hb.cell 4).trans (show _ = some (Value.int .i64 r) from rfl)
  clear hb k14 k5 kc k15
  go_wp2_with fail
  (with_reducible refine (hS _).mono ?_)
  rintro e w6 ⟨rfl, k6⟩
  clear y0 y1 y2 y3 y4
  go_wp2_with fail
  (with_reducible refine (HX.out.2.2 _ (KA.trans k6)).mono ?_)
  rintro e w7 ⟨rfl, k7⟩
  go_wp2
  go_ret
  exact ⟨rfl, (KA.trans k6).trans k7⟩

set_option maxHeartbeats 2000000 in
theorem back_int (w : World) (n p q r : Int) (hv : VOk ⟨1, n, p, q, r⟩) (hT : Tabs w) :
    Calls Tryd.prog 6 #[.agg #[.int .i64 1, .int .i64 n, .int .u64 p, .int .u64 q, .int .i64 r]] w fun e w' => e = .returned (.bool true) ∧ Keep [] w w' := by
  have kb : Keep [] w (w.alloc (.cells #[.int .i64 1, .int .i64 n, .int .u64 p, .int .u64 q, .int .i64 r] 24)) := Keep.alloc _ _
  have hB := Blk.new w 24 #[.int .i64 1, .int .i64 n, .int .u64 p, .int .u64 q, .int .i64 r]
  have hX := fun W (hk : Keep [] w W) => vtext_any 1 n p q r hv W (hT.keep hk)
  have hP := fun W (hk : Keep [] w W) => vparse_any (textV ⟨1, n, p, q, r⟩) (textV_size hv) W (hT.keep hk)
  rw [parse_textV (v := ⟨1, n, p, q, r⟩) (Or.inr (Or.inl rfl)) hv, show plainV ⟨1, n, p, q, r⟩ = ⟨1, n, 0, 0, 0⟩ from rfl] at hP
  unfold OPost at hP
  simp only [Option.getD_some, Option.isSome_some] at hP
  generalize textV ⟨1, n, p, q, r⟩ = S at *
  have hS := fun W => vsame_any 1 n 0 0 0 1 n p q r W
  rw [sameV_symm, show sameV ⟨1, n, p, q, r⟩ ⟨1, n, 0, 0, 0⟩ = true from sameV_plain (v := ⟨1, n, p, q, r⟩) (Or.inr (Or.inl rfl))] at hS
  have hAw := fun W (hk : Keep [] w W) => awake10_any W (hT.keep hk)
  have hW : ∀ W, Calls Tryd.prog 20 _ W (OneP _ W) := fun W => (vwords_int n p q r W).mono fun _ _ h => WPost.one h
  have hO := fun W b o (hb : b < W.heap.size) hc => vof_int (IntKind.u64.wrap n) b o 1 (by omega) (by omega) W hb hc
  rw [back64 hv.n0 hv.n1] at hO
  unfold OPost at hO
  simp only [Option.getD_some, Option.isSome_some] at hO
  have HO := Lib.hid hO
  clear hO
  have HB := Lib.hid (And.intro hB kb)
  have HX := Lib.hid (And.intro hX (And.intro hP hAw))
  clear hB kb hX hP hAw hv hT
  go_enter Tryd.func6, Tryd.ntmps6
  go_wp2_with fail
  (with_reducible refine (HX.out.1 _ HB.out.2).mono ?_)
  rintro e w1 ⟨rfl, k1⟩
  go_wp2_with fail
  (with_reducible refine (HX.out.2.1 _ (HB.out.2.trans k1)).mono ?_)
  rintro e w2 ⟨rfl, k2⟩
  have ka : Keep [] w2 (w2.alloc (.cells #[.int .i64 1, .int .i64 n, .int .u64 0, .int .u64 0, .int .i64 0] 24)) := Keep.alloc _ _
  have k12 := (k1.trans k2).trans ka
  have hb := HB.out.1.keep k12 (by simp)
  have hp := Blk.new w2 24 #[.int .i64 1, .int .i64 n, .int .u64 0, .int .u64 0, .int .i64 0]
  have y0 := (hb.cell 0).trans (show _ = some (Value.int .i64 1) from rfl)
  have y1 := (hb.cell 1).trans (show _ = some (Value.int .i64 n) from rfl)
  have y2 := (hb.cell 2).trans (show _ = some (Value.int .u64 p) from rfl)
  have y3 := (hb.cell 3).trans (show _ = some (Value.int .u64 q) from rfl)
  have y4 := (hb.cell 4).trans (show _ = some (Value.int .i64 r) from rfl)
  have HP := Lib.hid hp
  clear hb hp k1 k2 ka
  go_wp2_with fail
  (with_reducible refine (hS _).mono ?_)
  rintro e w3 ⟨rfl, k3⟩
  clear y0 y1 y2 y3 y4
  have k13 := k12.trans k3
  have hb := HB.out.1.keep k13 (by simp)
  have y0 := (hb.cell 0).trans (show _ = some (Value.int .i64 1) from rfl)
  have y1 := (hb.cell 1).trans (show _ = some (Value.int .i64 n) from rfl)
  have y2 := (hb.cell 2).trans (show _ = some (Value.int .u64 p) from rfl)
  have y3 := (hb.cell 3).trans (show _ = some (Value.int .u64 q) from rfl)
  have y4 := (hb.cell 4).trans (show _ = some (Value.int .i64 r) from rfl)
  clear hb k12 k3
  go_wp2_with fail
  (with_reducible refine (hW _).mono ?_)
  rintro e w4 ⟨b, o, rfl, hb4, hc4, k4⟩
  clear hW y0 y1 y2 y3 y4
  have hO := HO.out w4 b o hb4 hc4
  have k14 := k13.trans k4
  clear HO hb4 hc4 k13 k4
  go_wp2_with fail
  (with_reducible refine hO.mono ?_)
  rintro e w5 ⟨rfl, k5⟩
  clear hO
  have kc : Keep [] w5 (w5.alloc (.cells #[.int .i64 1, .int .i64 n, .int .u64 0, .int .u64 0, .int .i64 0] 24)) := Keep.alloc _ _
  have k15 := (k14.trans k5).trans kc
  have hb := HB.out.1.keep k15 (by simp)
  have KA := HB.out.2.trans k15
  have y0 := (hb.cell 0).trans (show _ = some (Value.int .i64 1) from rfl)
  have y1 := (hb.cell 1).trans (show _ = some (Value.int .i64 n) from rfl)
  have y2 := (hb.cell 2).trans (show _ = some (Value.int .u64 p) from rfl)
  have y3 := (hb.cell 3).trans (show _ = some (Value.int .u64 q) from rfl)
  have y4 := (hb.cell 4).trans (show _ = some (Value.int .i64 r) from rfl)
  clear hb k14 k5 kc k15
  go_wp2_with fail
  (with_reducible refine (hS _).mono ?_)
  rintro e w6 ⟨rfl, k6⟩
  clear y0 y1 y2 y3 y4
  go_wp2_with fail
  (with_reducible refine (HX.out.2.2 _ (KA.trans k6)).mono ?_)
  rintro e w7 ⟨rfl, k7⟩
  go_wp2
  go_ret
  exact ⟨rfl, (KA.trans k6).trans k7⟩

set_option maxHeartbeats 2000000 in
theorem back_cplx (w : World) (n p q r : Int) (hv : VOk ⟨2, n, p, q, r⟩) (hT : Tabs w) :
    Calls Tryd.prog 6 #[.agg #[.int .i64 2, .int .i64 n, .int .u64 p, .int .u64 q, .int .i64 r]] w fun e w' => e = .returned (.bool true) ∧ Keep [] w w' := by
  have kb : Keep [] w (w.alloc (.cells #[.int .i64 2, .int .i64 n, .int .u64 p, .int .u64 q, .int .i64 r] 24)) := Keep.alloc _ _
  have hB := Blk.new w 24 #[.int .i64 2, .int .i64 n, .int .u64 p, .int .u64 q, .int .i64 r]
  have hX := fun W (hk : Keep [] w W) => vtext_any 2 n p q r hv W (hT.keep hk)
  have hP := fun W (hk : Keep [] w W) => vparse_any (textV ⟨2, n, p, q, r⟩) (textV_size hv) W (hT.keep hk)
  rw [parse_textV (v := ⟨2, n, p, q, r⟩) (Or.inr (Or.inr (Or.inl rfl))) hv, show plainV ⟨2, n, p, q, r⟩ = ⟨2, 0, p, q, 0⟩ from rfl] at hP
  unfold OPost at hP
  simp only [Option.getD_some, Option.isSome_some] at hP
  generalize textV ⟨2, n, p, q, r⟩ = S at *
  have hS := fun W => vsame_any 2 0 p q 0 2 n p q r W
  rw [sameV_symm, show sameV ⟨2, n, p, q, r⟩ ⟨2, 0, p, q, 0⟩ = true from sameV_plain (v := ⟨2, n, p, q, r⟩) (Or.inr (Or.inr (Or.inl rfl)))] at hS
  have hAw := fun W (hk : Keep [] w W) => awake10_any W (hT.keep hk)
  have hW : ∀ W, Calls Tryd.prog 20 _ W (TwoP _ _ W) := fun W => (vwords_cplx n p q r W).mono fun _ _ h => WPost.two h
  have hO := fun W b o (hb : b < W.heap.size) hc hd => vof_cplx p q b o 2 (by omega) (by omega) W hb hc hd
  unfold OPost at hO
  simp only [Option.getD_some, Option.isSome_some] at hO
  have HO := Lib.hid hO
  clear hO
  have HB := Lib.hid (And.intro hB kb)
  have HX := Lib.hid (And.intro hX (And.intro hP hAw))
  clear hB kb hX hP hAw hv hT
  go_enter Tryd.func6, Tryd.ntmps6
  go_wp2_with fail
  (with_reducible refine (HX.out.1 _ HB.out.2).mono ?_)
  rintro e w1 ⟨rfl, k1⟩
  go_wp2_with fail
  (with_reducible refine (HX.out.2.1 _ (HB.out.2.trans k1)).mono ?_)
  rintro e w2 ⟨rfl, k2⟩
  have ka : Keep [] w2 (w2.alloc (.cells #[.int .i64 2, .int .i64 0, .int .u64 p, .int .u64 q, .int .i64 0] 24)) := Keep.alloc _ _
  have k12 := (k1.trans k2).trans ka
  have hb := HB.out.1.keep k12 (by simp)
  have hp := Blk.new w2 24 #[.int .i64 2, .int .i64 0, .int .u64 p, .int .u64 q, .int .i64 0]
  have y0 := (hb.cell 0).trans (show _ = some (Value.int .i64 2) from rfl)
  have y1 := (hb.cell 1).trans (show _ = some (Value.int .i64 n) from rfl)
  have y2 := (hb.cell 2).trans (show _ = some (Value.int .u64 p) from rfl)
  have y3 := (hb.cell 3).trans (show _ = some (Value.int .u64 q) from rfl)
  have y4 := (hb.cell 4).trans (show _ = some (Value.int .i64 r) from rfl)
  have HP := Lib.hid hp
  clear hb hp k1 k2 ka
  go_wp2_with fail
  (with_reducible refine (hS _).mono ?_)
  rintro e w3 ⟨rfl, k3⟩
  clear y0 y1 y2 y3 y4
  have k13 := k12.trans k3
  have hb := HB.out.1.keep k13 (by simp)
  have y0 := (hb.cell 0).trans (show _ = some (Value.int .i64 2) from rfl)
  have y1 := (hb.cell 1).trans (show _ = some (Value.int .i64 n) from rfl)
  have y2 := (hb.cell 2).trans (show _ = some (Value.int .u64 p) from rfl)
  have y3 := (hb.cell 3).trans (show _ = some (Value.int .u64 q) from rfl)
  have y4 := (hb.cell 4).trans (show _ = some (Value.int .i64 r) from rfl)
  clear hb k12 k3
  go_wp2_with fail
  (with_reducible refine (hW _).mono ?_)
  rintro e w4 ⟨b, o, rfl, hb4, hc4, hd4, k4⟩
  clear hW y0 y1 y2 y3 y4
  have hO := HO.out w4 b o hb4 hc4 hd4
  have k14 := k13.trans k4
  clear HO hb4 hc4 hd4 k13 k4
  go_wp2_with fail
  (with_reducible refine hO.mono ?_)
  rintro e w5 ⟨rfl, k5⟩
  clear hO
  have kc : Keep [] w5 (w5.alloc (.cells #[.int .i64 2, .int .i64 0, .int .u64 p, .int .u64 q, .int .i64 0] 24)) := Keep.alloc _ _
  have k15 := (k14.trans k5).trans kc
  have hb := HB.out.1.keep k15 (by simp)
  have KA := HB.out.2.trans k15
  have y0 := (hb.cell 0).trans (show _ = some (Value.int .i64 2) from rfl)
  have y1 := (hb.cell 1).trans (show _ = some (Value.int .i64 n) from rfl)
  have y2 := (hb.cell 2).trans (show _ = some (Value.int .u64 p) from rfl)
  have y3 := (hb.cell 3).trans (show _ = some (Value.int .u64 q) from rfl)
  have y4 := (hb.cell 4).trans (show _ = some (Value.int .i64 r) from rfl)
  clear hb k14 k5 kc k15
  go_wp2_with fail
  (with_reducible refine (hS _).mono ?_)
  rintro e w6 ⟨rfl, k6⟩
  clear y0 y1 y2 y3 y4
  go_wp2_with fail
  (with_reducible refine (HX.out.2.2 _ (KA.trans k6)).mono ?_)
  rintro e w7 ⟨rfl, k7⟩
  go_wp2
  go_ret
  exact ⟨rfl, (KA.trans k6).trans k7⟩

set_option maxHeartbeats 2000000 in
theorem back_ref (w : World) (n p q r : Int) (h0 : 0 ≤ r) (h1 : r ≤ 1099511627776) (hv : VOk ⟨3, n, p, q, r⟩) (hT : Tabs w) :
    Calls Tryd.prog 6 #[.agg #[.int .i64 3, .int .i64 n, .int .u64 p, .int .u64 q, .int .i64 r]] w fun e w' => e = .returned (.bool true) ∧ Keep [] w w' := by
  have kb : Keep [] w (w.alloc (.cells #[.int .i64 3, .int .i64 n, .int .u64 p, .int .u64 q, .int .i64 r] 24)) := Keep.alloc _ _
  have hB := Blk.new w 24 #[.int .i64 3, .int .i64 n, .int .u64 p, .int .u64 q, .int .i64 r]
  have hX := fun W (hk : Keep [] w W) => vtext_any 3 n p q r hv W (hT.keep hk)
  have hP := fun W (hk : Keep [] w W) => vparse_any (textV ⟨3, n, p, q, r⟩) (textV_size hv) W (hT.keep hk)
  rw [parse_textV (v := ⟨3, n, p, q, r⟩) (Or.inr (Or.inr (Or.inr rfl))) hv, show plainV ⟨3, n, p, q, r⟩ = ⟨3, 0, 0, 0, r⟩ from rfl] at hP
  unfold OPost at hP
  simp only [Option.getD_some, Option.isSome_some] at hP
  generalize textV ⟨3, n, p, q, r⟩ = S at *
  have hS := fun W => vsame_any 3 0 0 0 r 3 n p q r W
  rw [sameV_symm, show sameV ⟨3, n, p, q, r⟩ ⟨3, 0, 0, 0, r⟩ = true from sameV_plain (v := ⟨3, n, p, q, r⟩) (Or.inr (Or.inr (Or.inr rfl)))] at hS
  have hAw := fun W (hk : Keep [] w W) => awake10_any W (hT.keep hk)
  have hW : ∀ W, Calls Tryd.prog 20 _ W (OneP _ W) := fun W => (vwords_ref n p q r h0 h1 W).mono fun _ _ h => WPost.one h
  have hO := fun W b o (hb : b < W.heap.size) hc => vof_ref (r + 1) (by omega) (by omega) b o 1 (by omega) (by omega) W hb hc
  have e3 : ofV 3 [r + 1] = some ⟨3, 0, 0, 0, r⟩ := by
    rw [ofV_one, if_neg (by decide), if_pos rfl, if_neg (by omega), if_pos (by omega)]
    rw [show r + 1 - 1 = r by omega]
  rw [e3] at hO
  unfold OPost at hO
  simp only [Option.getD_some, Option.isSome_some] at hO
  have HO := Lib.hid hO
  clear hO
  have HB := Lib.hid (And.intro hB kb)
  have HX := Lib.hid (And.intro hX (And.intro hP hAw))
  clear hB kb hX hP hAw hv hT
  go_enter Tryd.func6, Tryd.ntmps6
  go_wp2_with fail
  (with_reducible refine (HX.out.1 _ HB.out.2).mono ?_)
  rintro e w1 ⟨rfl, k1⟩
  go_wp2_with fail
  (with_reducible refine (HX.out.2.1 _ (HB.out.2.trans k1)).mono ?_)
  rintro e w2 ⟨rfl, k2⟩
  have ka : Keep [] w2 (w2.alloc (.cells #[.int .i64 3, .int .i64 0, .int .u64 0, .int .u64 0, .int .i64 r] 24)) := Keep.alloc _ _
  have k12 := (k1.trans k2).trans ka
  have hb := HB.out.1.keep k12 (by simp)
  have hp := Blk.new w2 24 #[.int .i64 3, .int .i64 0, .int .u64 0, .int .u64 0, .int .i64 r]
  have y0 := (hb.cell 0).trans (show _ = some (Value.int .i64 3) from rfl)
  have y1 := (hb.cell 1).trans (show _ = some (Value.int .i64 n) from rfl)
  have y2 := (hb.cell 2).trans (show _ = some (Value.int .u64 p) from rfl)
  have y3 := (hb.cell 3).trans (show _ = some (Value.int .u64 q) from rfl)
  have y4 := (hb.cell 4).trans (show _ = some (Value.int .i64 r) from rfl)
  have HP := Lib.hid hp
  clear hb hp k1 k2 ka
  go_wp2_with fail
  (with_reducible refine (hS _).mono ?_)
  rintro e w3 ⟨rfl, k3⟩
  clear y0 y1 y2 y3 y4
  have k13 := k12.trans k3
  have hb := HB.out.1.keep k13 (by simp)
  have y0 := (hb.cell 0).trans (show _ = some (Value.int .i64 3) from rfl)
  have y1 := (hb.cell 1).trans (show _ = some (Value.int .i64 n) from rfl)
  have y2 := (hb.cell 2).trans (show _ = some (Value.int .u64 p) from rfl)
  have y3 := (hb.cell 3).trans (show _ = some (Value.int .u64 q) from rfl)
  have y4 := (hb.cell 4).trans (show _ = some (Value.int .i64 r) from rfl)
  clear hb k12 k3
  go_wp2_with fail
  (with_reducible refine (hW _).mono ?_)
  rintro e w4 ⟨b, o, rfl, hb4, hc4, k4⟩
  clear hW y0 y1 y2 y3 y4
  have hO := HO.out w4 b o hb4 hc4
  have k14 := k13.trans k4
  clear HO hb4 hc4 k13 k4
  go_wp2_with fail
  (with_reducible refine hO.mono ?_)
  rintro e w5 ⟨rfl, k5⟩
  clear hO
  have kc : Keep [] w5 (w5.alloc (.cells #[.int .i64 3, .int .i64 0, .int .u64 0, .int .u64 0, .int .i64 r] 24)) := Keep.alloc _ _
  have k15 := (k14.trans k5).trans kc
  have hb := HB.out.1.keep k15 (by simp)
  have KA := HB.out.2.trans k15
  have y0 := (hb.cell 0).trans (show _ = some (Value.int .i64 3) from rfl)
  have y1 := (hb.cell 1).trans (show _ = some (Value.int .i64 n) from rfl)
  have y2 := (hb.cell 2).trans (show _ = some (Value.int .u64 p) from rfl)
  have y3 := (hb.cell 3).trans (show _ = some (Value.int .u64 q) from rfl)
  have y4 := (hb.cell 4).trans (show _ = some (Value.int .i64 r) from rfl)
  clear hb k14 k5 kc k15
  go_wp2_with fail
  (with_reducible refine (hS _).mono ?_)
  rintro e w6 ⟨rfl, k6⟩
  clear y0 y1 y2 y3 y4
  go_wp2_with fail
  (with_reducible refine (HX.out.2.2 _ (KA.trans k6)).mono ?_)
  rintro e w7 ⟨rfl, k7⟩
  go_wp2
  go_ret
  exact ⟨rfl, (KA.trans k6).trans k7⟩

set_option maxHeartbeats 2000000 in
theorem back_far (w : World) (n p q r : Int) (h0 : r < 0 ∨ (0 ≤ r ∧ 1099511627776 < r)) (hv : VOk ⟨3, n, p, q, r⟩) (hT : Tabs w) :
    Calls Tryd.prog 6 #[.agg #[.int .i64 3, .int .i64 n, .int .u64 p, .int .u64 q, .int .i64 r]] w fun e w' => e = .returned (.bool true) ∧ Keep [] w w' := by
  have kb : Keep [] w (w.alloc (.cells #[.int .i64 3, .int .i64 n, .int .u64 p, .int .u64 q, .int .i64 r] 24)) := Keep.alloc _ _
  have hB := Blk.new w 24 #[.int .i64 3, .int .i64 n, .int .u64 p, .int .u64 q, .int .i64 r]
  have hX := fun W (hk : Keep [] w W) => vtext_any 3 n p q r hv W (hT.keep hk)
  have hP := fun W (hk : Keep [] w W) => vparse_any (textV ⟨3, n, p, q, r⟩) (textV_size hv) W (hT.keep hk)
  rw [parse_textV (v := ⟨3, n, p, q, r⟩) (Or.inr (Or.inr (Or.inr rfl))) hv, show plainV ⟨3, n, p, q, r⟩ = ⟨3, 0, 0, 0, r⟩ from rfl] at hP
  unfold OPost at hP
  simp only [Option.getD_some, Option.isSome_some] at hP
  generalize textV ⟨3, n, p, q, r⟩ = S at *
  have hS := fun W => vsame_any 3 0 0 0 r 3 n p q r W
  rw [sameV_symm, show sameV ⟨3, n, p, q, r⟩ ⟨3, 0, 0, 0, r⟩ = true from sameV_plain (v := ⟨3, n, p, q, r⟩) (Or.inr (Or.inr (Or.inr rfl)))] at hS
  have hAw := fun W (hk : Keep [] w W) => awake10_any W (hT.keep hk)
  have hW : ∀ W, Calls Tryd.prog 20 #[.int .i64 3, .agg #[.int .i64 3, .int .i64 n, .int .u64 p, .int .u64 q, .int .i64 r]] W fun e w' => ∃ A, e = .returned (.tuple #[.slice A 0 0, .bool false]) ∧ Keep [] W w' := fun W => (vwords_any 3 3 n p q r W).mono fun e w' h => by
    have e0 : wordsV 3 ⟨3, n, p, q, r⟩ = none := by
      unfold wordsV
      dsimp only
      rw [if_neg (by omega), if_neg (by omega), if_neg (by omega), if_neg (by omega)]
    rw [e0] at h
    obtain ⟨A, he, hA, hk⟩ := h
    exact ⟨A, he, hk⟩
  have HB := Lib.hid (And.intro hB kb)
  have HX := Lib.hid (And.intro hX (And.intro hP hAw))
  clear hB kb hX hP hAw hv hT
  rcases h0 with h0 | ⟨h0, h1⟩
  all_goals
    go_enter Tryd.func6, Tryd.ntmps6
    go_wp2_with fail
    (with_reducible refine (HX.out.1 _ HB.out.2).mono ?_)
    rintro e w1 ⟨rfl, k1⟩
    go_wp2_with fail
    (with_reducible refine (HX.out.2.1 _ (HB.out.2.trans k1)).mono ?_)
    rintro e w2 ⟨rfl, k2⟩
    have ka : Keep [] w2 (w2.alloc (.cells #[.int .i64 3, .int .i64 0, .int .u64 0, .int .u64 0, .int .i64 r] 24)) := Keep.alloc _ _
    have k12 := (k1.trans k2).trans ka
    have hb := HB.out.1.keep k12 (by simp)
    have hp := Blk.new w2 24 #[.int .i64 3, .int .i64 0, .int .u64 0, .int .u64 0, .int .i64 r]
    have y0 := (hb.cell 0).trans (show _ = some (Value.int .i64 3) from rfl)
    have y1 := (hb.cell 1).trans (show _ = some (Value.int .i64 n) from rfl)
    have y2 := (hb.cell 2).trans (show _ = some (Value.int .u64 p) from rfl)
    have y3 := (hb.cell 3).trans (show _ = some (Value.int .u64 q) from rfl)
    have y4 := (hb.cell 4).trans (show _ = some (Value.int .i64 r) from rfl)
    have HP := Lib.hid hp
    clear hb hp k1 k2 ka
    go_wp2_with fail
    (with_reducible refine (hS _).mono ?_)
    rintro e w3 ⟨rfl, k3⟩
    clear y0 y1 y2 y3 y4
    have k13 := k12.trans k3
    have hb := HB.out.1.keep k13 (by simp)
    have y0 := (hb.cell 0).trans (show _ = some (Value.int .i64 3) from rfl)
    have y1 := (hb.cell 1).trans (show _ = some (Value.int .i64 n) from rfl)
    have y2 := (hb.cell 2).trans (show _ = some (Value.int .u64 p) from rfl)
    have y3 := (hb.cell 3).trans (show _ = some (Value.int .u64 q) from rfl)
    have y4 := (hb.cell 4).trans (show _ = some (Value.int .i64 r) from rfl)
    clear hb k12 k3
    go_wp2_with fail
    (with_reducible refine (hW _).mono ?_)
    rintro e w4 ⟨A4, rfl, k4⟩
    clear hW y0 y1 y2 y3 y4
    have k14 := k13.trans k4
    have hb := HB.out.1.keep k14 (by simp)
    have y0 := (hb.cell 0).trans (show _ = some (Value.int .i64 3) from rfl)
    have y1 := (hb.cell 1).trans (show _ = some (Value.int .i64 n) from rfl)
    have y2 := (hb.cell 2).trans (show _ = some (Value.int .u64 p) from rfl)
    have y3 := (hb.cell 3).trans (show _ = some (Value.int .u64 q) from rfl)
    have y4 := (hb.cell 4).trans (show _ = some (Value.int .i64 r) from rfl)
    clear hb
    have KA := HB.out.2.trans k14
    go_wp2_with fail
    (with_reducible refine (HX.out.2.2 _ KA).mono ?_)
    rintro e w5 ⟨rfl, k5⟩
    go_wp2
    go_ret
    exact ⟨rfl, KA.trans k5⟩

theorem walk_vback (w : World) (K n p q r : Int) (hv : VOk ⟨K, n, p, q, r⟩) (hT : Tabs w) :
    Calls Tryd.prog 6 #[.agg #[.int .i64 K, .int .i64 n, .int .u64 p, .int .u64 q, .int .i64 r]] w fun e w' => e = .returned (.bool true) ∧ Keep [] w w' := by
  by_cases h : Kind4 K
  case neg => exact back_no w K n p q r h hv hT
  rcases h with rfl | rfl | rfl | rfl
  · exact back_nil w n p q r hv hT
  · exact back_int w n p q r hv hT
  · exact back_cplx w n p q r hv hT
  · by_cases h0 : 0 ≤ r ∧ r ≤ 1099511627776
    · exact back_ref w n p q r h0.1 h0.2 hv hT
    · exact back_far w n p q r (by omega) hv hT
end Go.Proofs.YtjnaglellobmmaaDoor
