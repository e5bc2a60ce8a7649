/-
  BitmapBack, walked. No conditions.
-/
import Derived.Test.YthfcfkdbfjibgaaMap6
namespace Go.Proofs.Ythfcfkdbfjibgaa
open Go.RowKit Go.Flo Go.Bit Go.Bmp
set_option maxRecDepth 100000

theorem slot_mod2 (a : Int) (m : Nat) (hm : 0 < m) (hm' : m ≤ 1000) : ∃ f : Nat, f < m ∧ wrap64 ((IntKind.u64.wrap a).tmod m) = f := by
  have e : IntKind.u64.wrap a = ((a % 18446744073709551616).toNat : Int) := by rw [IntKind.wrap_u64]; omega
  have h : (a % 18446744073709551616).toNat % m < m := Nat.mod_lt _ hm
  refine ⟨(a % 18446744073709551616).toNat % m, h, ?_⟩
  rw [e, ← Int.ofNat_tmod]
  unfold wrap64
  omega

theorem Mp.lt {w : World} {L : MLoc} {n : Nat} {B : Nat → Bool} (h : Mp w L n B) : L.m < w.heap.size ∧ L.r < w.heap.size := ⟨h.blk.lt, h.row.lt⟩

set_option maxHeartbeats 4000000 in
theorem walk_back (a0 : Int) (A : Option Addr) (len cap : Nat) (f : Nat → Nat) (a2 : Int) (w : World) (hW : Wrd w A len cap f) :
    Calls Try.prog 5 #[.int .i64 a0, .slice A len cap, .int .i64 a2] w fun e w' => e = .returned (.bool true) ∧ Keep [] w w' := by
  obtain ⟨n, hxn⟩ : ∃ n : Nat, max 0 (min a0 400) = (n : Int) := ⟨(max 0 (min a0 400)).toNat, by omega⟩
  have hn : n ≤ 400 := by omega
  have HX := Lib.hid hxn
  have ho := of_any w n A len cap f hW
  rw [clampN_nat (by omega)] at ho
  clear hxn hW
  generalize ofB n len f = B at *
  go_enter Try.func5, Try.ntmps5
  go_upto_region 1 with fail
  go_cut [0] (fun s0 wx => s0 = .int .i64 n ∧ w = wx)
  case first =>
    have hx := HX.out
    rcases Int.lt_or_le 400 a0 with c | c
    · have e : n = 400 := by omega
      subst e
      go_wp2_with fail
      go_meet
      exact ⟨rfl, rfl⟩
    · rcases Int.lt_or_le 0 a0 with c2 | c2
      · have e : a0 = n := by omega
        subst e
        go_wp2_with fail
        go_meet
        exact ⟨rfl, rfl⟩
      · have e : n = 0 := by omega
        subst e
        go_wp2_with fail
        go_meet
        exact ⟨rfl, rfl⟩
  case rest =>
  obtain ⟨rfl, rfl⟩ := hcut
  clear HX
  have hnw := nw_le (show n ≤ 1048576 by omega)
  go_wp2_with fail
  (with_reducible refine ho.mono ?_)
  rintro e w1 ⟨L, rfl, hM, _, _, hk1⟩
  clear ho
  have g := mwords_any hM
  go_wp2_with fail
  (with_reducible refine g.mono ?_)
  rintro e w2 ⟨r1, c1, rfl, hR, _, hk2⟩
  clear g
  have hM := hM.keep0 hk2
  have hK := hk1.trans hk2
  clear hk1 hk2
  have g := of_any w2 n (some ⟨r1, 0, none⟩) (nw n) c1 (pack B) (Wrd.row hR (pack_lt B))
  rw [clampN_nat (by omega), ofB_pack hM.tidy] at g
  clear hR
  go_wp2_with fail
  (with_reducible refine g.mono ?_)
  rintro e w3 ⟨L2, rfl, hO, _, _, hk2⟩
  clear g
  have hM := hM.keep0 hk2
  have hK := hK.trans hk2
  clear hk2
  have g := mcopy_any hM
  go_wp2_with fail
  (with_reducible refine g.mono ?_)
  rintro e w4 ⟨C, rfl, hC, hC1, hC2, hk2⟩
  clear g
  have hl := hM.lt
  have n1 : L.m ∉ [C.r] := by simp; omega
  have n2 : L.r ∉ [C.r] := by simp; omega
  have hCs : w.heap.size ≤ C.r := Nat.le_trans hK.size hC2
  have hM := hM.keep0 hk2
  have hO := hO.keep0 hk2
  have hK := hK.trans hk2
  clear hk2 hC1 hC2 hl
  have g := mwords_any hM
  go_wp2_with fail
  (with_reducible refine g.mono ?_)
  rintro e w5 ⟨r2, c2, rfl, hR2, _, hk2⟩
  clear g
  have hM := hM.keep0 hk2
  have hO := hO.keep0 hk2
  have hC := hC.keep0 hk2
  have hK := hK.trans hk2
  clear hk2
  have g := mwords_any hO
  go_wp2_with fail
  (with_reducible refine g.mono ?_)
  rintro e w6 ⟨r3, c3, rfl, hR3, _, hk2⟩
  clear g
  have hM := hM.keep0 hk2
  have hC := hC.keep0 hk2
  have hR2 := hR2.keep hk2 (by simp)
  have hK := hK.trans hk2
  clear hk2 hO
  have g := same_wv w6 r2 c2 r3 c3 (nw n) B (by omega) hR2 hR3
  go_wp2_with fail
  (with_reducible refine g.mono ?_)
  rintro e w7 ⟨rfl, hd⟩
  have hk2 : Keep [] w6 w7 := Keep.dr hd
  clear g hR2 hR3 hd
  have hM := hM.keep0 hk2
  have hC := hC.keep0 hk2
  have hK := hK.trans hk2
  clear hk2
  have g := mwords_any hC
  go_wp2_with fail
  (with_reducible refine g.mono ?_)
  rintro e w8 ⟨r4, c4, rfl, hR4, _, hk2⟩
  clear g
  have hM := hM.keep0 hk2
  have hC := hC.keep0 hk2
  have hK := hK.trans hk2
  clear hk2
  have g := mwords_any hM
  go_wp2_with fail
  (with_reducible refine g.mono ?_)
  rintro e w9 ⟨r5, c5, rfl, hR5, _, hk2⟩
  clear g
  have hM := hM.keep0 hk2
  have hC := hC.keep0 hk2
  have hR4 := hR4.keep hk2 (by simp)
  have hK := hK.trans hk2
  clear hk2
  have g := same_wv w9 r4 c4 r5 c5 (nw n) B (by omega) hR4 hR5
  go_wp2_with fail
  (with_reducible refine g.mono ?_)
  rintro e wa ⟨rfl, hd⟩
  have hk2 : Keep [] w9 wa := Keep.dr hd
  clear g hR4 hR5 hd
  have hM := hM.keep0 hk2
  have hC := hC.keep0 hk2
  have hK := hK.trans hk2
  clear hk2
  rcases Nat.eq_zero_or_pos n with h0 | h0
  · subst h0
    have g : Calls Try.prog 15 #[.pointer (some ⟨L.m, 0, none⟩)] wa fun e w' => e = .returned (.int .i64 0) ∧ wa = w' := mlen_any hM
    go_wp2_with fail
    (with_reducible refine g.mono ?_)
    rintro e w' ⟨rfl, rfl⟩
    go_wp2_with fail
    (with_reducible refine (awake5_any wa).mono ?_)
    rintro e wb ⟨rfl, hk3⟩
    go_wp2
    go_ret
    exact ⟨rfl, hK.trans hk3⟩
  · obtain ⟨k, hk, hmod⟩ := slot_mod2 a2 n h0 (by omega)
    have q0 : ((n : Int) == 0) = false := beq_eq_false_iff_ne.2 (by omega)
    have q1 : IntKind.u64.wrap (n : Int) = n := by rw [IntKind.wrap_u64]; omega
    have g := mget_nat hM k hk
    have g2 : ∀ (W : World), Mp W C n B → Calls Try.prog 11 #[.pointer (some ⟨C.m, 0, none⟩), .int .i64 k, .bool (!(B k))] W (SetPost C n (upd B k (!(B k))) true W) := fun W h => mset_do h k hk _ (by cases B k <;> simp)
    have g4 : ∀ (W : World), Mp W C n (upd B k (!(B k))) → Calls Try.prog 12 #[.pointer (some ⟨C.m, 0, none⟩), .int .i64 k] W fun e w' => e = .returned (.bool (!(B k))) ∧ Dr W w' := fun W h => by
      have := mget_nat h k hk
      rwa [upd_same] at this
    have g5 : ∀ (W : World), Mp W C n (upd B k (!(B k))) → Calls Try.prog 11 #[.pointer (some ⟨C.m, 0, none⟩), .int .i64 k, .bool (!(B k))] W fun e w' => e = .returned (.bool false) ∧ Dr W w' := fun W h => by
      have := mset_same h k hk
      rwa [upd_same] at this
    have g3 : ∀ (W : World), Mp W L n B → Calls Try.prog 12 #[.pointer (some ⟨L.m, 0, none⟩), .int .i64 k] W fun e w' => e = .returned (.bool (B k)) ∧ Dr W w' := fun W h => mget_nat h k hk
    have G2 := Lib.hid g2
    have G3 := Lib.hid g3
    have G4 := Lib.hid g4
    have G5 := Lib.hid g5
    clear g2 g3 g4 g5
    generalize upd B k (!(B k)) = B' at *
    generalize B k = b at *
    have q2 : (b == b) = true := by simp
    have q3 : ((!b) != b) = true := by cases b <;> rfl
    have q4 : (b == !b) = false := by cases b <;> rfl
    go_wp2_with fail
    (with_reducible refine g.mono ?_)
    rintro e wb ⟨rfl, hd⟩
    have hM := hM.dr hd
    have hC := hC.dr hd
    have hK := hK.trans (Keep.dr hd)
    have g2 := G2.out wb hC
    clear g hd
    go_wp2_with fail
    (with_reducible refine g2.mono ?_)
    rintro e wd ⟨rfl, hC, hk2⟩
    have hM := hM.keep hk2 n1 n2
    have hK : Keep [] w wd := ⟨hk2.os.trans hK.os, hk2.tape.trans hK.tape, hk2.output.trans hK.output, Nat.le_trans hK.size hk2.size, fun k hk hm => (hk2.block k (Nat.lt_of_lt_of_le hk hK.size) (by simp; omega)).trans (hK.block k hk hm)⟩
    have g3 := G3.out wd hM
    clear g2 hk2
    go_wp2_with fail
    (with_reducible refine g3.mono ?_)
    rintro e we ⟨rfl, hd⟩
    have hC := hC.dr hd
    have hK := hK.trans (Keep.dr hd)
    have g4 := G4.out we hC
    clear g3 hd
    go_wp2_with fail
    (with_reducible refine g4.mono ?_)
    rintro e wf ⟨rfl, hd⟩
    have hC := hC.dr hd
    have hK := hK.trans (Keep.dr hd)
    have g5 := G5.out wf hC
    clear g4 hd
    go_wp2_with fail
    (with_reducible refine g5.mono ?_)
    rintro e wg ⟨rfl, hd⟩
    have hK := hK.trans (Keep.dr hd)
    clear g5 hd
    go_wp2_with fail
    (with_reducible refine (awake5_any wg).mono ?_)
    rintro e wh ⟨rfl, hk3⟩
    go_wp2
    go_ret
    exact ⟨rfl, hK.trans hk3⟩
end Go.Proofs.Ythfcfkdbfjibgaa
