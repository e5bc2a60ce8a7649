/-
  Package bitmap: Set. No conditions but what a map is.
-/
import Derived.Test.YtfihaaciaobolaaMap2
import Derived.Deep.RegionWith
namespace Go.Proofs.Ytfihaaciaobolaa
open Go.RowKit Go.Flo Go.Bit Go.Bmp
set_option maxRecDepth 100000

theorem Mp.set_ {w : World} {L : MLoc} {n : Nat} {B : Nat → Bool} (h : Mp w L n B) {i : Nat} (hi : i < n) (b : Bool) : Mp (w.setCell ⟨L.r, i / 64, none⟩ (.int .u64 (pack (upd B i b) (i / 64) : Nat))) L n (upd B i b) := by
  refine ⟨h.blk.far h.ne _, (h.row.set_ (i / 64) _).congr fun k hk => ?_, h.ne, h.le, fun j hj => ?_⟩
  · by_cases e : k = i / 64
    · simp only [e, if_true, wv]
    · simp only [e, if_false, wv, pack_upd_far B b e]
  · rw [upd_far B b (by omega)]
    exact h.tidy j hj

/-- A bit by any number, made another. -/
def updZ (B : Nat → Bool) (n : Nat) (i : Int) (b : Bool) : Nat → Bool := if 0 ≤ i ∧ i < n then upd B i.toNat b else B
/-- Was it otherwise? -/
def wasZ (B : Nat → Bool) (n : Nat) (i : Int) (b : Bool) : Bool := decide (0 ≤ i ∧ i < n) && (B i.toNat != b)
theorem updZ_nat {B : Nat → Bool} {n i : Nat} (b : Bool) (h : i < n) : updZ B n i b = upd B i b := by
  unfold updZ
  rw [if_pos (by omega)]
  rfl
theorem wasZ_nat {B : Nat → Bool} {n i : Nat} (b : Bool) (h : i < n) : wasZ B n i b = (B i != b) := by
  have : (0 : Int) ≤ (i : Int) ∧ (i : Int) < (n : Int) := by omega
  unfold wasZ
  simp [this]

/-- What Set leaves. -/
def SetPost (L : MLoc) (n : Nat) (B : Nat → Bool) (v : Bool) (w : World) (e : Ending) (w' : World) : Prop := e = .returned (.bool v) ∧ Mp w' L n B ∧ Keep [L.r] w w'

set_option maxHeartbeats 2000000 in
theorem mset_do {w : World} {L : MLoc} {n : Nat} {B : Nat → Bool} (h : Mp w L n B) (i : Nat) (hi : i < n) (b : Bool) (hb : B i ≠ b) :
    Calls Try.prog 46 #[.pointer (some ⟨L.m, 0, none⟩), .int .i64 i, .bool b] w (SetPost L n (upd B i b) true w) := by
  have hh := mhas_yes h i hi
  have hg := mget_nat h i hi
  have hle := h.le
  have hk := nw_lt hi
  have q1 : (0 : Int) ≤ (i : Int) / 64 := by omega
  have q2 : (i : Int) / 64 < (nw n : Int) := by omega
  have q3 : ((i : Int) / 64).toNat = i / 64 := by omega
  have h63 := i64_and63 i (by omega)
  have h63' : ((i % 64 : Nat) : Int) = (i : Int) % 64 := by omega
  have hs : ∀ (W : World), Keep [] w W → Calls Try.prog 65 #[.int .u64 (pack B (i / 64) : Nat), .int .i64 ((i : Int) % 64), .int .i64 1, .int .u64 (b.toNat : Nat)] W fun e w' => e = .returned (.int .u64 (pack (upd B i b) (i / 64) : Nat)) ∧ Keep [] w w' := by
    intro W hW
    have := set_any (pack B (i / 64)) (i % 64) 1 b.toNat (pack_lt _ _) (by cases b <;> decide) (by omega) W
    rw [← pack_upd, h63'] at this
    exact this.mono fun e w' ⟨h1, h2⟩ => ⟨h1, hW.trans (Keep.dr h2)⟩
  have HS := Lib.hid hs
  clear hs
  have HM := Lib.hid (fun (W : World) (hW : Keep [] w W) => h.keep0 hW)
  have hfin : ∀ W, Keep [] w W → SetPost L n (upd B i b) true w (.returned (.bool true)) (W.setCell ⟨L.r, i / 64, none⟩ (.int .u64 (pack (upd B i b) (i / 64) : Nat))) := fun W hW =>
    ⟨rfl, (h.keep0 hW).set_ hi b, hW.of_nil.trans (Keep.setCell _ _ (by simp) _)⟩
  have HF := Lib.hid hfin
  clear hfin
  generalize pack (upd B i b) (i / 64) = y at *
  cases b
  · have hbb : B i = true := by simpa using hb
    rw [hbb] at hg
    clear hb h
    go_enter Try.func46, Try.ntmps46
    go_wp2_with fail
    (with_reducible refine hh.mono ?_)
    rintro e w' ⟨rfl, rfl⟩
    go_wp2_with fail
    (with_reducible refine hg.mono ?_)
    rintro e w1 ⟨rfl, hd⟩
    have K1 : Keep [] w w1 := Keep.dr hd
    have c1 := (HM.out w1 K1).c1
    have c2 := (HM.out w1 K1).word hk
    have hz := (HM.out w1 K1).row.frozen (i / 64)
    clear hd hg hh
    go_wp2_with fail
    go_region_with (go_at_call 65; refine (HS.out _ (by repeat (first | exact K1 | (with_reducible refine Keep.trans ?_ (Keep.drew _))))).mono ?_; rintro e w2 ⟨rfl, hK⟩; have d1 := (HM.out w2 hK).c1; have d2 := (HM.out w2 hK).word hk; have d3 := (HM.out w2 hK).row.frozen (i / 64))
    all_goals
      go_wp2
      go_ret
      exact HF.out w2 hK
  · have hbb : B i = false := by simpa using hb
    rw [hbb] at hg
    clear hb h
    go_enter Try.func46, Try.ntmps46
    go_wp2_with fail
    (with_reducible refine hh.mono ?_)
    rintro e w' ⟨rfl, rfl⟩
    go_wp2_with fail
    (with_reducible refine hg.mono ?_)
    rintro e w1 ⟨rfl, hd⟩
    have K1 : Keep [] w w1 := Keep.dr hd
    have c1 := (HM.out w1 K1).c1
    have c2 := (HM.out w1 K1).word hk
    have hz := (HM.out w1 K1).row.frozen (i / 64)
    clear hd hg hh
    go_wp2_with fail
    go_region_with (go_at_call 65; refine (HS.out _ (by repeat (first | exact K1 | (with_reducible refine Keep.trans ?_ (Keep.drew _))))).mono ?_; rintro e w2 ⟨rfl, hK⟩; have d1 := (HM.out w2 hK).c1; have d2 := (HM.out w2 hK).word hk; have d3 := (HM.out w2 hK).row.frozen (i / 64))
    all_goals
      go_wp2
      go_ret
      exact HF.out w2 hK

theorem mset_same {w : World} {L : MLoc} {n : Nat} {B : Nat → Bool} (h : Mp w L n B) (i : Nat) (hi : i < n) :
    Calls Try.prog 46 #[.pointer (some ⟨L.m, 0, none⟩), .int .i64 i, .bool (B i)] w fun e w' => e = .returned (.bool false) ∧ Dr w w' := by
  have hh := mhas_yes h i hi
  have hg := mget_nat h i hi
  generalize B i = b at *
  have hbb : (b == b) = true := by simp
  go_enter Try.func46, Try.ntmps46
  go_wp2_with fail
  (with_reducible refine hh.mono ?_)
  rintro e w' ⟨rfl, rfl⟩
  go_wp2_with fail
  (with_reducible refine hg.mono ?_)
  rintro e w1 ⟨rfl, hd⟩
  go_wp2
  go_ret
  exact ⟨rfl, hd⟩
theorem mset_no {w : World} {L : MLoc} {n : Nat} {B : Nat → Bool} (h : Mp w L n B) (i : Int) (hi : i < 0 ∨ n ≤ i) (b : Bool) :
    Calls Try.prog 46 #[.pointer (some ⟨L.m, 0, none⟩), .int .i64 i, .bool b] w fun e w' => e = .returned (.bool false) ∧ w = w' := by
  have hh := mhas_no h i hi
  go_enter Try.func46, Try.ntmps46
  go_wp2_with fail
  (with_reducible refine hh.mono ?_)
  rintro e w' ⟨rfl, rfl⟩
  go_wp2
  go_ret
  exact ⟨rfl, rfl⟩
theorem mset_nil (w : World) (i : Int) (b : Bool) :
    Calls Try.prog 46 #[.pointer none, .int .i64 i, .bool b] w fun e w' => e = .returned (.bool false) ∧ w = w' := by
  have hh := mhas_nil w i
  go_enter Try.func46, Try.ntmps46
  go_wp2_with fail
  (with_reducible refine hh.mono ?_)
  rintro e w' ⟨rfl, rfl⟩
  go_wp2
  go_ret
  exact ⟨rfl, rfl⟩

theorem mset_any {w : World} {L : MLoc} {n : Nat} {B : Nat → Bool} (h : Mp w L n B) (i : Int) (b : Bool) :
    Calls Try.prog 46 #[.pointer (some ⟨L.m, 0, none⟩), .int .i64 i, .bool b] w (SetPost L n (updZ B n i b) (wasZ B n i b) w) := by
  by_cases hi : 0 ≤ i ∧ i < n
  · obtain ⟨k, rfl⟩ := Int.eq_ofNat_of_zero_le hi.1
    have hk : k < n := by omega
    rw [updZ_nat b hk, wasZ_nat b hk]
    by_cases hb : B k = b
    · subst hb
      rw [upd_self, bne_self_eq_false]
      exact (mset_same h k hk).mono fun e w' ⟨h1, h2⟩ => ⟨h1, h.dr h2, Keep.dr h2⟩
    · rw [show (B k != b) = true by simpa using hb]
      exact mset_do h k hk b hb
  · have e1 : updZ B n i b = B := by unfold updZ; rw [if_neg hi]
    have e2 : wasZ B n i b = false := by unfold wasZ; simp [hi]
    rw [e1, e2]
    exact (mset_no h i (by omega) b).mono fun e w' ⟨h1, h2⟩ => ⟨h1, h2 ▸ h, h2 ▸ Keep.refl _ _⟩
end Go.Proofs.Ytfihaaciaobolaa
