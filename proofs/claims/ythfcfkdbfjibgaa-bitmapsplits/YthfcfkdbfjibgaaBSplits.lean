/-
  BitmapSplits, walked. No conditions.
-/
import Derived.Test.YthfcfkdbfjibgaaMap6
namespace Go.Proofs.Ythfcfkdbfjibgaa
open Go.RowKit Go.Flo Go.Bit Go.Bmp
set_option maxRecDepth 100000

/-- What two searches tell: the one finds what stands at the head, the other goes on. -/
theorem fst_split (B : Nat → Bool) (lo hi : Nat) (h : lo < hi) :
    (fst B lo hi true = lo ∧ (fst B lo hi false = -1 ∨ ∃ i : Nat, fst B lo hi false = i ∧ lo < i ∧ i < hi)) ∨ (fst B lo hi false = lo ∧ (fst B lo hi true = -1 ∨ ∃ i : Nat, fst B lo hi true = i ∧ lo < i ∧ i < hi)) := by
  cases hb : B lo with
  | true =>
    refine .inl ⟨fst_here h hb, ?_⟩
    rcases fst_spec B hi false _ lo rfl with ⟨h1, _⟩ | ⟨i, h1, h2, h3, h4, _⟩
    · exact .inl h1
    · refine .inr ⟨i, h1, ?_, h3⟩
      rcases Nat.eq_or_lt_of_le h2 with e | e
      · rw [← e, hb] at h4; cases h4
      · exact e
  | false =>
    refine .inr ⟨fst_here h hb, ?_⟩
    rcases fst_spec B hi true _ lo rfl with ⟨h1, _⟩ | ⟨i, h1, h2, h3, h4, _⟩
    · exact .inl h1
    · refine .inr ⟨i, h1, ?_, h3⟩
      rcases Nat.eq_or_lt_of_le h2 with e | e
      · rw [← e, hb] at h4; cases h4
      · exact e

set_option maxHeartbeats 4000000 in
theorem walk_splits (a0 : Int) (A : Option Addr) (len cap : Nat) (f : Nat → Nat) (a2 a3 : Int) (w : World) (hW : Wrd w A len cap f) (hf : a2 ≤ 9223372036854775807) :
    Calls Try.prog 7 #[.int .i64 a0, .slice A len cap, .int .i64 a2, .int .i64 a3] w fun e w' => e = .returned (.bool true) ∧ Keep [] w w' := by
  obtain ⟨n, hxn⟩ : ∃ n : Nat, max 0 (min a0 500) = (n : Int) := ⟨(max 0 (min a0 500)).toNat, by omega⟩
  have hn : n ≤ 500 := by omega
  have HX := Lib.hid hxn
  have ho := of_any w n A len cap f hW
  rw [clampN_nat (by omega)] at ho
  clear hxn hW
  generalize ofB n len f = B at *
  go_enter Try.func7, Try.ntmps7
  go_upto_region 1 with fail
  go_cut [0] (fun s0 wx => s0 = .int .i64 n ∧ w = wx)
  case first =>
    have hx := HX.out
    rcases Int.lt_or_le 500 a0 with c | c
    · have e : n = 500 := by omega
      subst e
      go_wp2_with fail
      go_meet
      exact ⟨rfl, rfl⟩
    · rcases Int.lt_or_le 0 a0 with c2 | c2
      · have e : a0 = n := by omega
        subst e
        go_wp2_with fail
        go_meet
        exact ⟨rfl, rfl⟩
      · have e : n = 0 := by omega
        subst e
        go_wp2_with fail
        go_meet
        exact ⟨rfl, rfl⟩
  case rest =>
  obtain ⟨rfl, rfl⟩ := hcut
  clear HX
  go_wp2_with fail
  (with_reducible refine ho.mono ?_)
  rintro e w1 ⟨L, rfl, hM, _, _, hk1⟩
  clear ho
  have g1 := mfirst_any hM a2 a3 true hf
  have g2 := mfirst_any hM a2 a3 false hf
  obtain ⟨lo, hlo⟩ : ∃ lo : Nat, max 0 a2 = (lo : Int) := ⟨a2.toNat, by omega⟩
  obtain ⟨hi, hhi⟩ : ∃ hi : Int, min (n : Int) a3 = hi := ⟨_, rfl⟩
  rw [show a2.toNat = lo by omega, show (min a3 (n : Int)).toNat = hi.toNat by omega] at g1 g2
  have hsp : (lo < hi → ((fst B lo hi.toNat true = lo ∧ (fst B lo hi.toNat false = -1 ∨ ∃ i : Nat, fst B lo hi.toNat false = i ∧ lo < i ∧ i < hi)) ∨ (fst B lo hi.toNat false = lo ∧ (fst B lo hi.toNat true = -1 ∨ ∃ i : Nat, fst B lo hi.toNat true = i ∧ lo < i ∧ i < hi)))) ∧ (hi ≤ lo → fst B lo hi.toNat true = -1 ∧ fst B lo hi.toNat false = -1) := by
    refine ⟨fun h => ?_, fun h => ⟨fst_end (by omega), fst_end (by omega)⟩⟩
    rcases fst_split B lo hi.toNat (by omega) with ⟨h1, h2 | ⟨i, h2, h3, h4⟩⟩ | ⟨h1, h2 | ⟨i, h2, h3, h4⟩⟩
    · exact .inl ⟨h1, .inl h2⟩
    · exact .inl ⟨h1, .inr ⟨i, h2, h3, by omega⟩⟩
    · exact .inr ⟨h1, .inl h2⟩
    · exact .inr ⟨h1, .inr ⟨i, h2, h3, by omega⟩⟩
  have HSP := Lib.hid hsp
  have HLH := Lib.hid (And.intro hlo hhi)
  have hhn : hi ≤ 500 := by omega
  clear hsp hlo hhi
  go_wp2_with fail
  (with_reducible refine g1.mono ?_)
  rintro e w' ⟨rfl, rfl⟩
  go_wp2_with fail
  (with_reducible refine g2.mono ?_)
  rintro e w' ⟨rfl, rfl⟩
  clear g1 g2
  generalize fst B lo hi.toNat true = x at *
  generalize fst B lo hi.toNat false = y at *
  go_upto_region 4 with fail
  go_cut [12, 13] (fun s12 s13 wx => s12 = .int .i64 lo ∧ s13 = .int .i64 hi ∧ w1 = wx)
  case first =>
    obtain ⟨e1, e2⟩ := HLH.out
    rcases Int.lt_or_le 0 a2 with c | c
    · have e : a2 = lo := by omega
      subst e
      rcases Int.lt_or_le a3 n with c2 | c2
      · have e : a3 = hi := by omega
        subst e
        go_wp2_with fail
        go_meet
        exact ⟨rfl, rfl, rfl⟩
      · have e : hi = n := by omega
        subst e
        go_wp2_with fail
        go_meet
        exact ⟨rfl, rfl, rfl⟩
    · have e : lo = 0 := by omega
      subst e
      rcases Int.lt_or_le a3 n with c2 | c2
      · have e : a3 = hi := by omega
        subst e
        go_wp2_with fail
        go_meet
        exact ⟨rfl, rfl, rfl⟩
      · have e : hi = n := by omega
        subst e
        go_wp2_with fail
        go_meet
        exact ⟨rfl, rfl, rfl⟩
  case rest =>
  obtain ⟨rfl, rfl, rfl⟩ := hcut
  clear HLH
  have hA := awake5_any w1
  rcases Int.lt_or_le lo hi with hlt | hle
  · rcases HSP.out.1 hlt with ⟨h1, h2 | ⟨i, h2, h3, h4⟩⟩ | ⟨h1, h2 | ⟨i, h2, h3, h4⟩⟩
    · subst h1 h2
      have q1 : ((-1 : Int) == (lo : Int)) = false := beq_eq_false_iff_ne.2 (by omega)
      have q2 : ((lo : Int) == (-1 : Int)) = false := beq_eq_false_iff_ne.2 (by omega)
      have q3 : ((lo : Int) != (-1 : Int)) = true := bne_iff_ne.2 (by omega)
      clear HSP
      go_wp2_with fail
      (with_reducible refine hA.mono ?_)
      rintro e w3 ⟨rfl, hk3⟩
      go_wp2
      go_ret
      exact ⟨rfl, hk1.trans hk3⟩
    · subst h1 h2
      have q1 : ((i : Int) == (lo : Int)) = false := beq_eq_false_iff_ne.2 (by omega)
      have q2 : ((lo : Int) == (-1 : Int)) = false := beq_eq_false_iff_ne.2 (by omega)
      have q3 : ((i : Int) == (-1 : Int)) = false := beq_eq_false_iff_ne.2 (by omega)
      have q4 : ((lo : Int) != (i : Int)) = true := bne_iff_ne.2 (by omega)
      have q5 : (lo : Int) ≤ (i : Int) := by omega
      clear HSP
      go_wp2_with fail
      (with_reducible refine hA.mono ?_)
      rintro e w3 ⟨rfl, hk3⟩
      go_wp2
      go_ret
      exact ⟨rfl, hk1.trans hk3⟩
    · subst h1 h2
      have q1 : ((-1 : Int) == (lo : Int)) = false := beq_eq_false_iff_ne.2 (by omega)
      have q2 : ((lo : Int) == (-1 : Int)) = false := beq_eq_false_iff_ne.2 (by omega)
      have q3 : ((-1 : Int) != (lo : Int)) = true := bne_iff_ne.2 (by omega)
      clear HSP
      go_wp2_with fail
      (with_reducible refine hA.mono ?_)
      rintro e w3 ⟨rfl, hk3⟩
      go_wp2
      go_ret
      exact ⟨rfl, hk1.trans hk3⟩
    · subst h1 h2
      have q1 : ((i : Int) == (lo : Int)) = false := beq_eq_false_iff_ne.2 (by omega)
      have q2 : ((lo : Int) == (-1 : Int)) = false := beq_eq_false_iff_ne.2 (by omega)
      have q3 : ((i : Int) == (-1 : Int)) = false := beq_eq_false_iff_ne.2 (by omega)
      have q4 : ((i : Int) != (lo : Int)) = true := bne_iff_ne.2 (by omega)
      have q5 : (lo : Int) ≤ (i : Int) := by omega
      clear HSP
      go_wp2_with fail
      (with_reducible refine hA.mono ?_)
      rintro e w3 ⟨rfl, hk3⟩
      go_wp2
      go_ret
      exact ⟨rfl, hk1.trans hk3⟩
  · obtain ⟨rfl, rfl⟩ := HSP.out.2 hle
    clear HSP
    go_wp2_with fail
    (with_reducible refine hA.mono ?_)
    rintro e w3 ⟨rfl, hk3⟩
    go_wp2
    go_ret
    exact ⟨rfl, hk1.trans hk3⟩
end Go.Proofs.Ythfcfkdbfjibgaa
