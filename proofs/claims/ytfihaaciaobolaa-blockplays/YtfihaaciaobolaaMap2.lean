/-
  Package bitmap: Count and First. No conditions but what a map is.
-/
import Derived.Test.YtfihaaciaobolaaMap
namespace Go.Proofs.Ytfihaaciaobolaa
open Go.RowKit Go.Flo Go.Bit Go.Bmp
set_option maxRecDepth 100000

def CntRel (w : World) (B : Nat → Bool) (n : Nat) (x y : Value) (wr : World) : Prop :=
  ∃ k : Nat, k ≤ nw n ∧ x = .int .i64 (cnt B (64 * k) : Nat) ∧ y = .int .i64 k ∧ w = wr

theorem then_goto {K : Act → World → Prop} {Q : Exit → Act → World → Prop} {l : Nat} {a : Act} {w : World} (h : Q (.goto l) a w) : Exit.then K Q (.goto l) a w := h

/-- What holds at the label of First. -/
def FstJ (w : World) (L : MLoc) (B : Nat → Bool) (f t : Int) (b : Bool) (X : Int) (a' : Act) (w' : World) : Prop :=
  w' = w ∧ ∃ (a : Nat) (u10 u11 u12 u13 u14 u15 u16 u17 u18 u19 u20 u21 u22 u23 u24 u25 u26 u27 u28 u29 u30 u31 u32 u33 u34 u35 u36 u37 u38 u39 u40 : Value),
    a' = { tmps := #[.pointer (some ⟨L.m, 0, none⟩), .int .i64 f, .int .i64 t, .bool b, undef, undef, undef, undef, .int .i64 0, .int .i64 a, u10, u11, u12, u13, u14, u15, u16, u17, u18, u19, u20, u21, u22, u23, u24, u25, u26, u27, u28, u29, u30, u31, u32, u33, u34, u35, u36, u37, u38, u39, u40], defers := [] }
    ∧ fst B a t.toNat b = X ∧ (a : Int) ≤ 9223372036854775807

set_option maxHeartbeats 1000000 in
theorem mfirst_any {w : World} {L : MLoc} {n : Nat} {B : Nat → Bool} (h : Mp w L n B) (f t : Int) (b : Bool) (hf : f ≤ 9223372036854775807) :
    Calls Try.prog 45 #[.pointer (some ⟨L.m, 0, none⟩), .int .i64 f, .int .i64 t, .bool b] w fun e w' => e = .returned (.int .i64 (fst B f.toNat (min t n).toNat b)) ∧ w = w' := by
  have hl := mlen_any h
  have hle := h.le
  obtain ⟨T, hT⟩ : ∃ T, T = min t (n : Int) := ⟨_, rfl⟩
  have hTn : T ≤ n := by omega
  obtain ⟨F, hF⟩ : ∃ F : Nat, F = f.toNat := ⟨_, rfl⟩
  have hF2 : max f 0 = (F : Int) := by omega
  rw [← hF, ← hT]
  have HT := Lib.hid hT
  clear hT hF
  go_enter Try.func45, Try.ntmps45
  go_wp2_with fail
  refine wp_scope_round 0 (FstJ w L B f T b (fst B F T.toNat b)) (fun a' _ => T.toNat - slotNat 9 a') rfl ?_ ?_
  · rintro a' w' ⟨rfl, a, u10, u11, u12, u13, u14, u15, u16, u17, u18, u19, u20, u21, u22, u23, u24, u25, u26, u27, u28, u29, u30, u31, u32, u33, u34, u35, u36, u37, u38, u39, u40, rfl, hX, ha⟩
    have HX := Lib.hid hX
    clear hX
    by_cases hlt : (a : Int) < T
    · have hk := nw_lt (show a < n by omega)
      have ho : Calls Try.prog 62 #[.pointer (some ⟨L.m, 0, none⟩), .int .i64 ((a : Int) / 64), .bool b] w' fun e w'' => e = .returned (.int .u64 (pack (fun i => B i == b) (a / 64) : Nat)) ∧ w' = w'' := by
        have := mones_any h (a / 64) hk b
        rwa [show ((a / 64 : Nat) : Int) = (a : Int) / 64 by omega] at this
      have h63 := i64_and63 a (by omega)
      have h63' : ((a % 64 : Nat) : Int) = (a : Int) % 64 := by omega
      obtain ⟨x, hx⟩ : ∃ x, pack (fun i => B i == b) (a / 64) / 2 ^ (a % 64) = x := ⟨_, rfl⟩
      have hxl : x < 18446744073709551616 := by rw [← hx]; exact div_lt64 _ _ (pack_lt _ _)
      have hxi : ((pack (fun i => B i == b) (a / 64) : Nat) : Int) / 2 ^ (a % 64) = (x : Int) := by rw [div_cast, hx]
      rcases Nat.eq_zero_or_pos x with h0 | h0
      · subst h0
        have hno : fst B a T.toNat b = fst B (64 * (a / 64) + 64) T.toNat b := by
          have := fst_skip (B := B) (t := T.toNat) (b := b) (64 - a % 64) a (fun j hj _ hb => by
            have := left_none hx j (by omega)
            rw [hb] at this
            simp at this)
          rwa [show a + (64 - a % 64) = 64 * (a / 64) + 64 by omega] at this
        have HN := Lib.hid (hno.symm.trans HX.out)
        have hor := i64_or63 a (by omega)
        obtain ⟨A, hA⟩ : ∃ A : Nat, A = 64 * (a / 64) + 63 := ⟨_, rfl⟩
        rw [← hA] at hor
        have hAb : A < 2000000 := by omega
        have hAa : a ≤ A := by omega
        have HA := Lib.hid hA
        have hxi0 : ((pack (fun i => B i == b) (a / 64) : Nat) : Int) / 2 ^ (a % 64) = 0 := hxi
        clear hx hno HX hxi hA
        go_wp2_with fail
        (with_reducible refine ho.mono ?_)
        rintro e w'' ⟨rfl, rfl⟩
        go_wp2_with fail
        go_step3
        apply then_goto
        apply jump_goto
        refine ⟨⟨rfl, A + 1, _, _, _, _, _, _, _, _, _, _, _, _, _, _, _, _, _, _, _, _, _, _, _, _, _, _, _, _, _, _, _, rfl, ?_, by omega⟩, ?_⟩
        · rw [show A + 1 = 64 * (a / 64) + 64 by have := HA.out; omega]
          exact HN.out
        · simp [slotNat]
          omega
      · have hlw := left_low (C := fun i => B i == b) (a := a) (by rw [hx]; exact h0) x hx
        have hsk : fst B a T.toNat b = fst B (a + low x) T.toNat b := fst_skip (low x) a (fun j hj _ hb => by
          have := hlw.2 j hj
          rw [hb] at this
          simp at this)
        have hbb : B (a + low x) = b := by
          have := hlw.1
          simpa using this
        have HL := Lib.hid (And.intro hsk hbb)
        have hlo := low_any x hxl w'
        have hl64 := low_le x
        generalize low x = d at *
        have hz : ((x : Int) == 0) = false := by simp; omega
        clear hsk hbb hlw hx
        by_cases hd : ((a + d : Nat) : Int) < T
        · have hres : fst B F T.toNat b = ((a + d : Nat) : Int) := by
            rw [← HX.out, HL.out.1, fst_here (by omega) HL.out.2]
          have HR := Lib.hid hres
          clear hres
          have hd' : (a : Int) + (d : Int) < T := by omega
          clear hd
          go_wp2_with fail
          (with_reducible refine ho.mono ?_)
          rintro e w'' ⟨rfl, rfl⟩
          go_wp2_with fail
          (with_reducible refine hlo.mono ?_)
          rintro e w'' ⟨rfl, rfl⟩
          go_wp2_with fail
          apply jump_ret
          go_ret
          exact ⟨by rw [HR.out]; exact ret_i64 (by simp), rfl⟩
        · have hres : fst B F T.toNat b = -1 := by
            rw [← HX.out, HL.out.1, fst_end (by omega)]
          have HR := Lib.hid hres
          clear hres
          have hd' : T ≤ (a : Int) + (d : Int) := by omega
          clear hd
          go_wp2_with fail
          (with_reducible refine ho.mono ?_)
          rintro e w'' ⟨rfl, rfl⟩
          go_wp2_with fail
          (with_reducible refine hlo.mono ?_)
          rintro e w'' ⟨rfl, rfl⟩
          go_wp2_with fail
          apply jump_ret
          go_ret
          exact ⟨by rw [HR.out]; rfl, rfl⟩
    · have hx : fst B F T.toNat b = -1 := HX.out.symm.trans (fst_end (by omega))
      have HXX := Lib.hid hx
      clear hx
      go_wp2_with fail
      apply jump_ret
      go_ret
      exact ⟨by rw [HXX.out]; rfl, rfl⟩
  · intro hfirst
    have ht2 := HT.out
    rcases Int.lt_or_le f 0 with c1 | c1
    · obtain rfl : F = 0 := by omega
      rcases Int.lt_or_le n t with c2 | c2
      · obtain rfl : T = n := by omega
        clear HT ht2 hF2
        go_wp2_with fail
        (with_reducible refine hl.mono ?_)
        rintro e w' ⟨rfl, rfl⟩
        go_wp2_with fail
        go_step3
        rename_i hK
        exact hK _ _ (hfirst _ _ ⟨rfl, 0, _, _, _, _, _, _, _, _, _, _, _, _, _, _, _, _, _, _, _, _, _, _, _, _, _, _, _, _, _, _, _, rfl, rfl, by omega⟩)
      · obtain rfl : T = t := by omega
        clear HT ht2 hF2
        go_wp2_with fail
        (with_reducible refine hl.mono ?_)
        rintro e w' ⟨rfl, rfl⟩
        go_wp2_with fail
        go_step3
        rename_i hK
        exact hK _ _ (hfirst _ _ ⟨rfl, 0, _, _, _, _, _, _, _, _, _, _, _, _, _, _, _, _, _, _, _, _, _, _, _, _, _, _, _, _, _, _, _, rfl, rfl, by omega⟩)
    · obtain rfl : f = F := by omega
      rcases Int.lt_or_le n t with c2 | c2
      · obtain rfl : T = n := by omega
        clear HT ht2 hF2
        go_wp2_with fail
        (with_reducible refine hl.mono ?_)
        rintro e w' ⟨rfl, rfl⟩
        go_wp2_with fail
        go_step3
        rename_i hK
        exact hK _ _ (hfirst _ _ ⟨rfl, F, _, _, _, _, _, _, _, _, _, _, _, _, _, _, _, _, _, _, _, _, _, _, _, _, _, _, _, _, _, _, _, rfl, rfl, by omega⟩)
      · obtain rfl : T = t := by omega
        clear HT ht2 hF2
        go_wp2_with fail
        (with_reducible refine hl.mono ?_)
        rintro e w' ⟨rfl, rfl⟩
        go_wp2_with fail
        go_step3
        rename_i hK
        exact hK _ _ (hfirst _ _ ⟨rfl, F, _, _, _, _, _, _, _, _, _, _, _, _, _, _, _, _, _, _, _, _, _, _, _, _, _, _, _, _, _, _, _, rfl, rfl, by omega⟩)

def FnJ (w : World) (a' : Act) (w' : World) : Prop :=
  w' = w ∧ ∃ (u10 u11 u12 u13 u14 u15 u16 u17 u18 u19 u20 u21 u22 u23 u24 u25 u26 u27 u28 u29 u30 u31 u32 u33 u34 u35 u36 u37 u38 u39 u40 : Value), a' = { tmps := #[.pointer none, .int .i64 0, .int .i64 0, .bool false, undef, undef, undef, undef, .int .i64 0, .int .i64 0, u10, u11, u12, u13, u14, u15, u16, u17, u18, u19, u20, u21, u22, u23, u24, u25, u26, u27, u28, u29, u30, u31, u32, u33, u34, u35, u36, u37, u38, u39, u40], defers := [] }
theorem mfirst_nil (w : World) : Calls Try.prog 45 #[.pointer none, .int .i64 0, .int .i64 9, .bool false] w fun e w' => e = .returned (.int .i64 (-1)) ∧ w = w' := by
  have hl := mlen_nil w
  go_enter Try.func45, Try.ntmps45
  go_wp2_with fail
  refine wp_scope_round 0 (FnJ w) (fun a' _ => 0) rfl ?_ ?_
  · rintro a' w' ⟨rfl, u10, u11, u12, u13, u14, u15, u16, u17, u18, u19, u20, u21, u22, u23, u24, u25, u26, u27, u28, u29, u30, u31, u32, u33, u34, u35, u36, u37, u38, u39, u40, rfl⟩
    go_wp2_with fail
    apply jump_ret
    go_ret
    exact ⟨rfl, rfl⟩
  · intro hfirst
    go_wp2_with fail
    (with_reducible refine hl.mono ?_)
    rintro e w' ⟨rfl, rfl⟩
    go_wp2_with fail
    go_step3
    rename_i hK
    exact hK _ _ (hfirst _ _ ⟨rfl, _, _, _, _, _, _, _, _, _, _, _, _, _, _, _, _, _, _, _, _, _, _, _, _, _, _, _, _, _, _, _, rfl⟩)
end Go.Proofs.Ytfihaaciaobolaa
