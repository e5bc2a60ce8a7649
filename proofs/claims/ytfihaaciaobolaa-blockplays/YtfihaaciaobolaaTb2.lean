/-
  Package block: leastClass, Reserve. No conditions but what a table is.
-/
import Derived.Test.YtfihaaciaobolaaTb1
import Derived.LoopN
namespace Go.Proofs.Ytfihaaciaobolaa
open Go.RowKit Go.Flo Go.Bit Go.Bmp
set_option maxRecDepth 100000

theorem least_any (x : Int) (hx : x ≤ 16) (w : World) : Calls Try.prog 43 #[.int .i64 x] w fun e w' => e = .returned (.int .i64 (lc x : Nat)) ∧ w = w' := by
  by_cases h2 : x ≤ 2
  · rw [show lc x = 0 by unfold lc; rw [if_pos h2]]
    go_enter Try.func43, Try.ntmps43
    go_wp2
    refine wp_loop_rounds 1 ?_
    rw [rounds_succ]; go_wp2
    go_ret
    exact ⟨rfl, rfl⟩
  · by_cases h4 : x ≤ 4
    · rw [show lc x = 1 by unfold lc; rw [if_neg h2, if_pos h4]]
      go_enter Try.func43, Try.ntmps43
      go_wp2
      refine wp_loop_rounds 2 ?_
      rw [rounds_succ]; go_wp2
      rw [rounds_succ]; go_wp2
      go_ret
      exact ⟨rfl, rfl⟩
    · by_cases h8 : x ≤ 8
      · rw [show lc x = 2 by unfold lc; rw [if_neg h2, if_neg h4, if_pos h8]]
        go_enter Try.func43, Try.ntmps43
        go_wp2
        refine wp_loop_rounds 3 ?_
        rw [rounds_succ]; go_wp2
        rw [rounds_succ]; go_wp2
        rw [rounds_succ]; go_wp2
        go_ret
        exact ⟨rfl, rfl⟩
      · rw [show lc x = 3 by unfold lc; rw [if_neg h2, if_neg h4, if_neg h8]]
        go_enter Try.func43, Try.ntmps43
        go_wp2
        refine wp_loop_rounds 4 ?_
        rw [rounds_succ]; go_wp2
        rw [rounds_succ]; go_wp2
        rw [rounds_succ]; go_wp2
        rw [rounds_succ]; go_wp2
        go_ret
        exact ⟨rfl, rfl⟩

/-- What Reserve leaves, where X is the block, or -1. -/
def ResPost (L : TLoc) (C : Cf) (U T : Nat → Bool) (X : Int) (w : World) (e : Ending) (w' : World) : Prop :=
  (∃ i : Nat, X = i ∧ i < C.all ∧ T i = false ∧ TPost L C U (upd T i true) (.tuple #[.int .i64 i, .int .i64 0]) w e w') ∨ (X = -1 ∧ e = .returned (.tuple #[.int .i64 0, .int .i64 5]) ∧ Dr w w')

/-- What holds at the label of Reserve. -/
def ResJ (w : World) (L : TLoc) (C : Cf) (T : Nat → Bool) (x X : Int) (a' : Act) (w' : World) : Prop :=
  Dr w w' ∧ ∃ (k : Nat) (u7 u8 u9 u10 u11 u12 u13 u14 u15 u16 u17 u18 u19 u20 u21 u22 u23 u24 u25 u26 u27 u28 u29 u30 u31 u32 u33 u34 u35 u36 u37 u38 u39 u40 u41 u42 u43 u44 u45 u46 u47 u48 u49 : Value), k ≤ 3 ∧ fst T (fo C k) C.all false = X ∧
    a' = { tmps := #[.pointer (some ⟨L.t, 0, none⟩), .int .i64 x, undef, undef, .int .i64 0, .int .i64 0, .int .i64 k, u7, u8, u9, u10, u11, u12, u13, u14, u15, u16, u17, u18, u19, u20, u21, u22, u23, u24, u25, u26, u27, u28, u29, u30, u31, u32, u33, u34, u35, u36, u37, u38, u39, u40, u41, u42, u43, u44, u45, u46, u47, u48, u49], defers := [] }

set_option maxHeartbeats 2000000 in
theorem reserve_any {w : World} {L : TLoc} {C : Cf} {U T : Nat → Bool} (h : Tbl w L C U T) (x : Int) (h1 : 1 ≤ x) (h16 : x ≤ 16) :
    Calls Try.prog 16 #[.pointer (some ⟨L.t, 0, none⟩), .int .i64 x] w (ResPost L C U T (fst T (fo C (lc x)) C.all false) w) := by
  have hc := least_any x h16 w
  have hall := h.taken.le
  generalize hX : fst T (fo C (lc x)) C.all false = X
  have hlc := lc_le x
  generalize lc x = k0 at *
  go_enter Try.func16, Try.ntmps16
  go_wp2_with fail
  refine wp_scope_round 0 (ResJ w L C T x X) (fun a' _ => 4 - slotNat 6 a') rfl ?_ ?_
  · rintro a' w' ⟨d1, k, u7, u8, u9, u10, u11, u12, u13, u14, u15, u16, u17, u18, u19, u20, u21, u22, u23, u24, u25, u26, u27, u28, u29, u30, u31, u32, u33, u34, u35, u36, u37, u38, u39, u40, u41, u42, u43, u44, u45, u46, u47, u48, u49, hk, hX', rfl⟩
    have ht := h.dr d1
    have hr := range_c ht.lc k hk
    have hab := fo_next C k
    have htl := fo_le C (k + 1)
    have hcat := fst_cat (B := T) (b := false) hab htl
    rw [hX'] at hcat
    have hspec := fst_spec T (fo C (k + 1)) false (fo C (k + 1) - fo C k) (fo C k) rfl
    have HC := Lib.hid hcat
    have HS := Lib.hid hspec
    clear hX' hcat hspec
    go_wp2_with fail
    (with_reducible refine hr.mono ?_)
    rintro e w2 ⟨rfl, d2⟩
    have ht2 := ht.dr d2
    have hck := ht2.ck
    have hf := mfirst_any ht2.taken (fo C k : Nat) (fo C (k + 1) : Nat) false (by omega)
    rw [show (min ((fo C (k + 1) : Nat) : Int) (C.all : Int)).toNat = fo C (k + 1) by omega, show ((fo C k : Nat) : Int).toNat = fo C k by omega] at hf
    have hd2 := d1.trans d2
    have hlast : ¬ k < 3 → fo C (k + 1) = C.all := fun h => by
      obtain rfl : k = 3 := by omega
      rfl
    generalize fo C k = a at *
    generalize ht1 : fo C (k + 1) = t at *
    have HL := Lib.hid hlast
    have HNX := Lib.hid ht1
    clear hr ht d1 d2 hlast ht1
    rcases HS.out with ⟨e1, e2⟩ | ⟨i, e1, e2, e3, e4, e5⟩
    · have hX2 := HC.out
      rw [e1, if_neg (by omega)] at hX2
      have HX2 := Lib.hid hX2
      obtain ⟨z, hz⟩ : ∃ z, fst T a t false = z := ⟨_, rfl⟩
      have hz0 : z < 0 := by omega
      rw [hz] at hf
      clear hX2 HC HS e1 e2 hz
      by_cases hk3 : k < 3
      · go_wp2_with fail
        (with_reducible refine hf.mono ?_)
        rintro e w3 ⟨rfl, rfl⟩
        go_wp2_with fail
        go_step3
        apply then_goto
        apply jump_goto
        refine ⟨⟨hd2, k + 1, _, _, _, _, _, _, _, _, _, _, _, _, _, _, _, _, _, _, _, _, _, _, _, _, _, _, _, _, _, _, _, _, _, _, _, _, _, _, _, _, _, _, _, by omega, by rw [HNX.out]; exact HX2.out.symm, rfl⟩, ?_⟩
        simp [slotNat]
        omega
      · go_wp2_with fail
        (with_reducible refine hf.mono ?_)
        rintro e w3 ⟨rfl, rfl⟩
        go_wp2_with fail
        apply jump_ret
        go_ret2
        exact Or.inr ⟨by rw [HX2.out, HL.out hk3, fst_end (by omega)], rfl, hd2⟩
    · have hX2 := HC.out
      rw [e1, if_pos (by omega)] at hX2
      have hia : i < C.all := by omega
      have hs := mset_any ht2.taken i true
      rw [updZ_nat _ hia, wasZ_nat _ hia, e4] at hs
      rw [e1] at hf
      have hi0 : (0 : Int) ≤ i := by omega
      have HX2 := Lib.hid hX2
      have HT := Lib.hid e4
      clear HC HS e1 e2 e5 hX2 e4
      go_wp2_with fail
      (with_reducible refine hf.mono ?_)
      rintro e w3 ⟨rfl, rfl⟩
      go_wp2_with fail
      (with_reducible refine hs.mono ?_)
      rintro e w4 ⟨rfl, m4, k4⟩
      have HF := Lib.hid (And.intro (ht2.setK m4 k4 (fun j hj => by
        by_cases ej : j = i
        · subst ej; exact upd_same _ _ _
        · rw [upd_far _ _ ej]; exact h.sub j hj)) ((Keep.dr hd2).trans (Keep.k k4)))
      clear hs hf ht2 m4 k4
      go_wp2_with fail
      apply jump_ret
      go_ret2
      exact Or.inl ⟨i, HX2.out, hia, HT.out, rfl, HF.out.1, HF.out.2⟩
  · intro hfirst
    go_wp2_with fail
    (with_reducible refine hc.mono ?_)
    rintro e w1 ⟨rfl, rfl⟩
    go_wp2_with fail
    go_step3
    rename_i hK
    exact hK _ _ (hfirst _ _ ⟨Dr.refl _, k0, _, _, _, _, _, _, _, _, _, _, _, _, _, _, _, _, _, _, _, _, _, _, _, _, _, _, _, _, _, _, _, _, _, _, _, _, _, _, _, _, _, _, _, hlc, hX, rfl⟩)

theorem reserve_nil (w : World) (x : Int) :
    Calls Try.prog 16 #[.pointer none, .int .i64 x] w fun e w' => e = .returned (.tuple #[.int .i64 0, .int .i64 1]) ∧ w = w' := by
  go_enter Try.func16, Try.ntmps16
  go_wp2_with fail
  refine wp_scope_round 0 (fun _ _ => False) (fun a' _ => 0) rfl (fun _ _ h => h.elim) ?_
  intro _
  go_wp2_with fail
  apply jump_ret
  go_ret2
  exact ⟨rfl, rfl⟩

theorem reserve_arg (w : World) (a : Option Addr) (x : Int) (hx : x < 1 ∨ 16 < x) :
    Calls Try.prog 16 #[.pointer a, .int .i64 x] w fun e w' => e = .returned (.tuple #[.int .i64 0, .int .i64 1]) ∧ w = w' := by
  cases a with
  | none => exact reserve_nil w x
  | some a =>
    by_cases h1 : x < 1
    · go_enter Try.func16, Try.ntmps16
      go_wp2_with fail
      refine wp_scope_round 0 (fun _ _ => False) (fun a' _ => 0) rfl (fun _ _ h => h.elim) ?_
      intro _
      go_wp2_with fail
      apply jump_ret
      go_ret2
      exact ⟨rfl, rfl⟩
    · have h16 : 16 < x := by omega
      go_enter Try.func16, Try.ntmps16
      go_wp2_with fail
      refine wp_scope_round 0 (fun _ _ => False) (fun a' _ => 0) rfl (fun _ _ h => h.elim) ?_
      intro _
      go_wp2_with fail
      apply jump_ret
      go_ret2
      exact ⟨rfl, rfl⟩
end Go.Proofs.Ytfihaaciaobolaa
