/-
  Package handle: find, Get, Drop; awake. No conditions but what a table is.
-/
import Derived.Test.YtejepiobdkbgpaaHn1
namespace Go.Proofs.Ytejepiobdkbgpaa
open Go.RowKit Go.Flo
set_option maxRecDepth 100000

theorem hit_num {s : Nat → Slt} {h : Int} {k : Nat} (hh : Hit s h k) (hb : h ≤ 9223372036854775807) : 0 ≤ h ∧ h.tmod 64 = k ∧ h.tdiv 64 = (s k).a ∧ IntKind.i64.wrap (k : Int) = k ∧ IntKind.i64.wrap ((s k).a : Int) = (s k).a := by
  obtain ⟨h1, h2, h3⟩ := hh
  have h0 : 0 ≤ h := by omega
  refine ⟨h0, ?_, ?_, ?_, ?_⟩
  · rw [Int.tmod_eq_emod_of_nonneg h0]; omega
  · rw [Int.tdiv_eq_ediv_of_nonneg h0]; omega
  · rw [IntKind.wrap_i64]; omega
  · rw [IntKind.wrap_i64]; omega

set_option maxHeartbeats 1000000 in
theorem find_yes {w : World} {g : Nat} {s : Nat → Slt} (ht : Tab w g s) {h : Int} {k : Nat} (hh : Hit s h k) (hb : h ≤ 9223372036854775807) :
    Calls Try.prog 23 #[.pointer (some ⟨g, 0, none⟩), .int .i64 h] w fun e w' => e = .returned (.tuple #[.pointer (some ⟨g, k * 3, none⟩), .int .i64 0]) ∧ w = w' := by
  obtain ⟨h0, n1, n2, n3, n4⟩ := hit_num hh hb
  obtain ⟨hk, htk, hv⟩ := hh
  have c2 := ht.ct hk
  have c1 := ht.ca hk
  rw [htk] at c2
  generalize (s k).a = A at *
  have h0' : ¬ h < 0 := by omega
  have hk0 : (k : Int) < 64 := by omega
  clear hv hb htk
  go_enter Try.func23, Try.ntmps23
  go_wp2_with fail
  go_ret2
  exact ⟨rfl, rfl⟩

theorem miss_num {s : Nat → Slt} {h : Int} (hm : ∀ k, ¬ Hit s h k) (h0 : 0 ≤ h) (hb : h ≤ 9223372036854775807) : ∃ k D : Nat, k < 64 ∧ h.tmod 64 = k ∧ h.tdiv 64 = D ∧ IntKind.i64.wrap (k : Int) = k ∧ IntKind.i64.wrap (D : Int) = D ∧ ((s k).t = true → (s k).a ≠ D) := by
  refine ⟨(h % 64).toNat, (h / 64).toNat, by omega, ?_, ?_, ?_, ?_, fun ht he => ?_⟩
  · rw [Int.tmod_eq_emod_of_nonneg h0]; omega
  · rw [Int.tdiv_eq_ediv_of_nonneg h0]; omega
  · rw [IntKind.wrap_i64]; omega
  · rw [IntKind.wrap_i64]; omega
  · exact hm _ ⟨by omega, ht, by rw [he]; omega⟩

set_option maxHeartbeats 1000000 in
theorem find_no {w : World} {g : Nat} {s : Nat → Slt} (ht : Tab w g s) {h : Int} (hm : ∀ k, ¬ Hit s h k) (hb : h ≤ 9223372036854775807) :
    Calls Try.prog 23 #[.pointer (some ⟨g, 0, none⟩), .int .i64 h] w fun e w' => e = .returned (.tuple #[.pointer none, .int .i64 2]) ∧ w = w' := by
  by_cases h0 : h < 0
  · clear hm hb
    go_enter Try.func23, Try.ntmps23
    go_wp2_with fail
    go_ret2
    exact ⟨rfl, rfl⟩
  · obtain ⟨k, D, hk, n1, n2, n3, n4, hne⟩ := miss_num hm (by omega) hb
    have c2 := ht.ct hk
    have c1 := ht.ca hk
    have hk0 : (k : Int) < 64 := by omega
    cases htk : (s k).t with
    | true =>
      have hne := hne htk
      rw [htk] at c2
      generalize (s k).a = A at *
      have hne' : ¬ ((A : Int) = D) := by omega
      clear hm hb htk hne
      go_enter Try.func23, Try.ntmps23
      go_wp2_with fail
      go_ret2
      exact ⟨rfl, rfl⟩
    | false =>
      rw [htk] at c2
      clear hm hb htk hne
      go_enter Try.func23, Try.ntmps23
      go_wp2_with fail
      go_ret2
      exact ⟨rfl, rfl⟩

theorem find_nil (w : World) (h : Int) : Calls Try.prog 23 #[.pointer none, .int .i64 h] w fun e w' => e = .returned (.tuple #[.pointer none, .int .i64 1]) ∧ w = w' := by
  go_enter Try.func23, Try.ntmps23
  go_wp2_with fail
  go_ret2
  exact ⟨rfl, rfl⟩

theorem get_yes {w : World} {g : Nat} {s : Nat → Slt} (ht : Tab w g s) {h : Int} {k : Nat} (hh : Hit s h k) (hb : h ≤ 9223372036854775807) :
    Calls Try.prog 12 #[.pointer (some ⟨g, 0, none⟩), .int .i64 h] w fun e w' => e = .returned (.tuple #[.int .i64 (s k).o, .int .i64 0]) ∧ w = w' := by
  have hf := find_yes ht hh hb
  obtain ⟨v, c0, hv⟩ := ht.co hh.1
  rw [← hv hh.2.1]
  clear hv
  go_enter Try.func12, Try.ntmps12
  go_wp2_with fail
  (with_reducible refine hf.mono ?_)
  rintro e w' ⟨rfl, rfl⟩
  go_wp2_with fail
  go_ret2
  exact ⟨rfl, rfl⟩

theorem get_no {w : World} {g : Nat} {s : Nat → Slt} (ht : Tab w g s) {h : Int} (hm : ∀ k, ¬ Hit s h k) (hb : h ≤ 9223372036854775807) :
    Calls Try.prog 12 #[.pointer (some ⟨g, 0, none⟩), .int .i64 h] w fun e w' => e = .returned (.tuple #[.int .i64 0, .int .i64 2]) ∧ w = w' := by
  have hf := find_no ht hm hb
  go_enter Try.func12, Try.ntmps12
  go_wp2_with fail
  (with_reducible refine hf.mono ?_)
  rintro e w' ⟨rfl, rfl⟩
  go_wp2_with fail
  go_ret2
  exact ⟨rfl, rfl⟩

theorem get_nil (w : World) (h : Int) : Calls Try.prog 12 #[.pointer none, .int .i64 h] w fun e w' => e = .returned (.tuple #[.int .i64 0, .int .i64 1]) ∧ w = w' := by
  have hf := find_nil w h
  go_enter Try.func12, Try.ntmps12
  go_wp2_with fail
  (with_reducible refine hf.mono ?_)
  rintro e w' ⟨rfl, rfl⟩
  go_wp2_with fail
  go_ret2
  exact ⟨rfl, rfl⟩

theorem drop_tab {w w' : World} {g : Nat} {s : Nat → Slt} {k : Nat} (h : Tab w g s) (hk : k < 64) (he : w' = ((w.setCell ⟨g, k * 3, none⟩ (.int .i64 0)).setCell ⟨g, k * 3 + 1, none⟩ (.int .i64 ((s k).a + 1 : Nat))).setCell ⟨g, k * 3 + 2, none⟩ (.bool false)) : Tab w' g (dropS s k) ∧ Keep [g] w w' := by
  subst he
  obtain ⟨c, hb, hs, hc⟩ := h
  refine ⟨⟨_, ((hb.set_ _ _).set_ _ _).set_ _ _, by simp [hs], fun i hi => ?_⟩, ((Keep.setCell _ _ (by simp) _).trans (Keep.setCell _ _ (by simp) _)).trans (Keep.setCell _ _ (by simp) _)⟩
  obtain ⟨h1, h2, v, h3, h4⟩ := hc i hi
  unfold dropS
  by_cases hik : i = k
  · subst hik
    rw [if_pos rfl]
    refine ⟨?_, ?_, 0, ?_, fun _ => rfl⟩
    · rw [Array.getElem?_setIfInBounds_ne (by omega), Array.getElem?_setIfInBounds_self_of_lt (by simp; omega)]
    · rw [Array.getElem?_setIfInBounds_self_of_lt (by simp; omega)]
    · rw [Array.getElem?_setIfInBounds_ne (by omega), Array.getElem?_setIfInBounds_ne (by omega), Array.getElem?_setIfInBounds_self_of_lt (by omega)]
  · rw [if_neg hik]
    refine ⟨?_, ?_, v, ?_, h4⟩
    · rw [Array.getElem?_setIfInBounds_ne (by omega), Array.getElem?_setIfInBounds_ne (by omega), Array.getElem?_setIfInBounds_ne (by omega)]; exact h1
    · rw [Array.getElem?_setIfInBounds_ne (by omega), Array.getElem?_setIfInBounds_ne (by omega), Array.getElem?_setIfInBounds_ne (by omega)]; exact h2
    · rw [Array.getElem?_setIfInBounds_ne (by omega), Array.getElem?_setIfInBounds_ne (by omega), Array.getElem?_setIfInBounds_ne (by omega)]; exact h3

set_option maxHeartbeats 1000000 in
theorem drop_yes {w : World} {g : Nat} {s : Nat → Slt} (ht : Tab w g s) {h : Int} {k : Nat} (hh : Hit s h k) (hb : h ≤ 9223372036854775807) :
    Calls Try.prog 14 #[.pointer (some ⟨g, 0, none⟩), .int .i64 h] w fun e w' => e = .returned (.int .i64 0) ∧ Tab w' g (dropS s k) ∧ Keep [g] w w' := by
  have hf := find_yes ht hh hb
  have c2 := ht.ct hh.1
  have c1 := ht.ca hh.1
  obtain ⟨v, c0, hv⟩ := ht.co hh.1
  have f0 := ht.fz (k * 3)
  have f1 := ht.fz (k * 3 + 1)
  have f2 := ht.fz (k * 3 + 2)
  obtain ⟨A, hA⟩ : ∃ A, (s k).a = A := ⟨_, rfl⟩
  have hAb : A < 1000000000000000000 := by have := hh.2.2; have := hh.1; omega
  have hA1 : ((A + 1 : Nat) : Int) = (A : Int) + 1 := by omega
  have HP := Lib.hid (drop_tab ht hh.1 (w' := _) rfl)
  rw [hA] at c1 HP
  rw [hA1] at HP
  have HH := Lib.hid hh
  clear hv hh hb hA hA1
  go_enter Try.func14, Try.ntmps14
  go_wp2_with fail
  (with_reducible refine hf.mono ?_)
  rintro e w' ⟨rfl, rfl⟩
  go_wp2_with fail
  go_ret
  exact ⟨rfl, HP.out.1, HP.out.2⟩

theorem drop_no {w : World} {g : Nat} {s : Nat → Slt} (ht : Tab w g s) {h : Int} (hm : ∀ k, ¬ Hit s h k) (hb : h ≤ 9223372036854775807) :
    Calls Try.prog 14 #[.pointer (some ⟨g, 0, none⟩), .int .i64 h] w fun e w' => e = .returned (.int .i64 2) ∧ w = w' := by
  have hf := find_no ht hm hb
  go_enter Try.func14, Try.ntmps14
  go_wp2_with fail
  (with_reducible refine hf.mono ?_)
  rintro e w' ⟨rfl, rfl⟩
  go_wp2_with fail
  go_ret
  exact ⟨rfl, rfl⟩

theorem drop_nil (w : World) (h : Int) : Calls Try.prog 14 #[.pointer none, .int .i64 h] w fun e w' => e = .returned (.int .i64 1) ∧ w = w' := by
  have hf := find_nil w h
  go_enter Try.func14, Try.ntmps14
  go_wp2_with fail
  (with_reducible refine hf.mono ?_)
  rintro e w' ⟨rfl, rfl⟩
  go_wp2_with fail
  go_ret
  exact ⟨rfl, rfl⟩

set_option maxHeartbeats 1000000 in
theorem awake13_any (w : World) : Calls Try.prog 22 #[] w fun e w' => e = .returned (.bool true) ∧ Keep [] w w' := by
  go_enter Try.func22, Try.ntmps22
  go_wp2_with fail
  (with_reducible refine (new_any w).mono ?_)
  rintro e w1 ⟨g, rfl, t1, hg, k1⟩
  have hp := put_at t1 (n := 0) ⟨by omega, fun i hi => by omega, fun _ => rfl⟩ (by omega) (by show 0 < 1000000; omega) 7 0 rfl
  go_wp2_with fail
  (with_reducible refine hp.mono ?_)
  rintro e w2 ⟨rfl, t2, k2⟩
  have hd := drop_yes t2 (h := 0) (k := 0) ⟨by omega, rfl, rfl⟩ (by omega)
  clear hp
  go_wp2_with fail
  (with_reducible refine hd.mono ?_)
  rintro e w3 ⟨rfl, t3, k3⟩
  clear hd
  have hp := put_at t3 (n := 0) ⟨by omega, fun i hi => by omega, fun _ => rfl⟩ (by omega) (by show 1 < 1000000; omega) 8 64 rfl
  go_wp2_with fail
  (with_reducible refine hp.mono ?_)
  rintro e w4 ⟨rfl, t4, k4⟩
  clear hp
  have hg0 := get_no t4 (h := 0) (fun k hh => by
    obtain ⟨h1, h2, h3⟩ := hh
    have hk0 : k = 0 := by omega
    subst hk0
    have : (putS (dropS (putS noS 0 7) 0) 0 8 0).a = 1 := rfl
    omega) (by omega)
  have KK : Keep [] w w4 := keep_since k1 ((k2.trans k3).trans k4) (fun q hq => by rw [List.mem_singleton] at hq; omega)
  go_wp2_with fail
  (with_reducible refine hg0.mono ?_)
  rintro e w5 ⟨rfl, rfl⟩
  go_wp2_with fail
  go_ret
  exact ⟨rfl, KK⟩
end Go.Proofs.Ytejepiobdkbgpaa
