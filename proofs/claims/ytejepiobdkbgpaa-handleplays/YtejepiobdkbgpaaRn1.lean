/-
  The document's twin of package handle: handles in memory; Put, slot, Get, Drop. No conditions but what handles are.
-/
import Derived.Test.YtejepiobdkbgpaaHn2
import Derived.BigRegion
namespace Go.Proofs.Ytejepiobdkbgpaa
open Go.RowKit Go.Flo
set_option maxRecDepth 100000

/-- The twin's handles in block g. -/
def RTab (w : World) (g : Nat) (s : Nat → Slt) : Prop :=
  ∃ c : Array Value, Blk w g 29 c ∧ c.size = 192 ∧ ∀ i, i < 64 → c[128 + i]? = some (.int .i64 (s i).a) ∧ c[64 + i]? = some (.bool (s i).t) ∧ ∃ v, c[i]? = some (.int .i64 v) ∧ ((s i).t = true → v = (s i).o)

theorem RTab.lt {w : World} {g : Nat} {s : Nat → Slt} (h : RTab w g s) : g < w.heap.size := by
  obtain ⟨c, hb, _⟩ := h
  exact hb.lt
theorem RTab.keep {w w' : World} {g : Nat} {s : Nat → Slt} {own : List Nat} (h : RTab w g s) (hk : Keep own w w') (hn : g ∉ own) : RTab w' g s := by
  obtain ⟨c, hb, r⟩ := h
  exact ⟨c, hb.keep hk hn, r⟩
theorem RTab.dr {w w' : World} {g : Nat} {s : Nat → Slt} (h : RTab w g s) (hk : Dr w w') : RTab w' g s := h.keep (own := []) (Keep.dr hk) (by simp)
theorem RTab.drew {w : World} {g : Nat} {s : Nat → Slt} (h : RTab w g s) : RTab w.drew g s := h.keep (own := []) (Keep.drew w) (by simp)
section
variable {w : World} {g : Nat} {s : Nat → Slt}
theorem RTab.ca (h : RTab w g s) {i : Nat} (hi : i < 64) : w.cell? ⟨g, 128 + i, none⟩ = some (.int .i64 (s i).a) := by
  obtain ⟨c, hb, hs, hc⟩ := h
  rw [hb.cell]; exact (hc i hi).1
theorem RTab.ct (h : RTab w g s) {i : Nat} (hi : i < 64) : w.cell? ⟨g, 64 + i, none⟩ = some (.bool (s i).t) := by
  obtain ⟨c, hb, hs, hc⟩ := h
  rw [hb.cell]; exact (hc i hi).2.1
theorem RTab.co (h : RTab w g s) {i : Nat} (hi : i < 64) : ∃ v, w.cell? ⟨g, i, none⟩ = some (.int .i64 v) ∧ ((s i).t = true → v = (s i).o) := by
  obtain ⟨c, hb, hs, hc⟩ := h
  rw [hb.cell]; exact (hc i hi).2.2
theorem RTab.fz (h : RTab w g s) (i : Nat) : w.frozen? ⟨g, i, none⟩ = false := by
  obtain ⟨c, hb, hs, hc⟩ := h
  exact hb.frozen i
end

/-- The cells of handles at first. -/
def rtabZ : Array Value := ((List.range 192).map (fun j => if 64 ≤ j ∧ j < 128 then Value.bool false else Value.int .i64 0)).toArray
theorem rtabZ_size : rtabZ.size = 192 := by simp [rtabZ]
theorem rtab_zero (w : World) : RTab (w.alloc (.cells rtabZ 29)) w.heap.size noS := by
  refine ⟨_, Blk.new _ _ _, rtabZ_size, fun i hi => ?_⟩
  unfold rtabZ
  have h1 : 128 + i < 192 := by omega
  have h2 : 64 + i < 192 := by omega
  have h0 : i < 192 := by omega
  have e0 : ¬ (64 ≤ i ∧ i < 128) := by omega
  have e1 : ¬ (64 ≤ 128 + i ∧ 128 + i < 128) := by omega
  have e2 : 64 ≤ 64 + i ∧ 64 + i < 128 := by omega
  refine ⟨?_, ?_, 0, ?_, fun h => by cases h⟩
  · simp [noS, h1]
  · simp [noS, h2]; omega
  · simp [h0, hi]; omega

theorem rput_tab {w w' : World} {g : Nat} {s : Nat → Slt} {k : Nat} {x : Int} (h : RTab w g s) (hk : k < 64) (he : w' = ((w.setCell ⟨g, 64 + k, none⟩ (.bool true)).setCell ⟨g, k, none⟩ (.int .i64 x)).drew) : RTab w' g (putS s k x) ∧ Keep [g] w w' := by
  subst he
  obtain ⟨c, hb, hs, hc⟩ := h
  refine ⟨RTab.drew ⟨_, (hb.set_ _ _).set_ _ _, by simp [hs], fun i hi => ?_⟩, ((Keep.setCell _ _ (by simp) _).trans (Keep.setCell _ _ (by simp) _)).trans (Keep.drew _)⟩
  obtain ⟨h1, h2, v, h3, h4⟩ := hc i hi
  unfold putS
  by_cases hik : i = k
  · subst hik
    rw [if_pos rfl]
    refine ⟨?_, ?_, x, ?_, fun _ => rfl⟩
    · rw [Array.getElem?_setIfInBounds_ne (by omega), Array.getElem?_setIfInBounds_ne (by omega)]; exact h1
    · rw [Array.getElem?_setIfInBounds_ne (by omega), Array.getElem?_setIfInBounds_self_of_lt (by omega)]
    · rw [Array.getElem?_setIfInBounds_self_of_lt (by simp; omega)]
  · rw [if_neg hik]
    refine ⟨?_, ?_, v, ?_, h4⟩
    · rw [Array.getElem?_setIfInBounds_ne (by omega), Array.getElem?_setIfInBounds_ne (by omega)]; exact h1
    · rw [Array.getElem?_setIfInBounds_ne (by omega), Array.getElem?_setIfInBounds_ne (by omega)]; exact h2
    · rw [Array.getElem?_setIfInBounds_ne (by omega), Array.getElem?_setIfInBounds_ne (by omega)]; exact h3

def RPutPost (g : Nat) (s : Nat → Slt) (k : Nat) (x : Int) (w : World) (e : Ending) (w' : World) : Prop :=
  (k < 64 ∧ e = .returned (.tuple #[.int .i64 ((s k).a * 64 + k), .int .i64 0]) ∧ RTab w' g (putS s k x) ∧ Keep [g] w w') ∨ (k = 64 ∧ e = .returned (.tuple #[.int .i64 0, .int .i64 9]) ∧ w = w')

def RpRel (w : World) (s : Nat → Slt) (x : Value) (wr : World) : Prop := ∃ k : Nat, k ≤ 64 ∧ x = .int .i64 k ∧ (∀ i, i < k → (s i).t = true) ∧ w = wr

set_option maxHeartbeats 2000000 in
theorem rput_any {w : World} {g : Nat} {s : Nat → Slt} (h : RTab w g s) {n : Nat} (hn : IsLf s n) (ha : (s n).a < 1000000) (x : Int) :
    Calls Try.prog 11 #[.pointer (some ⟨g, 0, none⟩), .int .i64 x] w (RPutPost g s n x w) := by
  have HN := Lib.hid hn
  clear hn
  go_enter Try.func11, Try.ntmps11
  go_wp2_with fail
  go_loopw [7] (fun x wr => RpRel w s x wr) (fun x _ => 64 - (intOf x).toNat)
  case atStart => exact ⟨0, by omega, rfl, fun i hi => by omega, rfl⟩
  case round =>
    obtain ⟨k, hk, rfl, hall, rfl⟩ := hrel
    have HA := Lib.hid hall
    clear hall
    by_cases hklt : k < 64
    · have ht := h.ct hklt
      have hkI : (k : Int) < 64 := by omega
      cases htk : (s k).t with
      | true =>
        rw [htk] at ht
        have HT := Lib.hid htk
        clear htk
        go_wp2_with fail
        go_roundw
        case rel => exact ⟨k + 1, by omega, by go_num, fun i hi => by
          rcases (show i < k ∨ i = k by omega) with h1 | rfl
          · exact HA.out i h1
          · exact HT.out, rfl⟩
        case measure => simp [intOf]; omega
      | false =>
        rw [htk] at ht
        have hkn : k = n := by
          rcases (show k < n ∨ n < k ∨ k = n by omega) with h1 | h1 | h1
          · have := HN.out.2.1 k h1
            rw [htk] at this
            cases this
          · have := HN.out.2.2 (by omega)
            rw [HA.out n h1] at this
            cases this
          · exact h1
        subst hkn
        clear htk
        obtain ⟨v0, ho, _⟩ := h.co hklt
        have hag := h.ca hklt
        have f0 := h.fz k
        have f2 := h.fz (64 + k)
        generalize hA : (s k).a = A at *
        have HAA := Lib.hid hA
        clear hA
        go_wp2_with fail
        go_region
        all_goals
          go_wp2_with fail
          go_ret2
          obtain ⟨r1, r2⟩ := rput_tab (w' := _) (x := x) h hklt rfl
          exact Or.inl ⟨hklt, by rw [HAA.out, show (A : Int) * 64 + k = k + 64 * A by omega]; rfl, r1, r2⟩
    · obtain rfl : k = 64 := by omega
      go_wp2_with fail
      go_ret2
      refine Or.inr ⟨?_, rfl, rfl⟩
      rcases (show n < 64 ∨ n = 64 by have := HN.out.1; omega) with h1 | h1
      · have := HN.out.2.2 h1
        rw [HA.out n h1] at this
        cases this
      · exact h1
theorem rput_at {w : World} {g : Nat} {s : Nat → Slt} (h : RTab w g s) {n : Nat} (hn : IsLf s n) (hlt : n < 64) (ha : (s n).a < 1000000) (x H : Int) (hH : H = (s n).a * 64 + n) :
    Calls Try.prog 11 #[.pointer (some ⟨g, 0, none⟩), .int .i64 x] w fun e w' => e = .returned (.tuple #[.int .i64 H, .int .i64 0]) ∧ RTab w' g (putS s n x) ∧ Keep [g] w w' :=
  (rput_any h hn ha x).mono (fun e w' hp => by
    rcases hp with ⟨_, h1, h2⟩ | ⟨h1, _⟩
    · rw [← hH] at h1
      exact ⟨h1, h2⟩
    · omega)
theorem rput_full {w : World} {g : Nat} {s : Nat → Slt} (h : RTab w g s) (hn : ∀ i, i < 64 → (s i).t = true) (ha : (s 64).a < 1000000) (x : Int) :
    Calls Try.prog 11 #[.pointer (some ⟨g, 0, none⟩), .int .i64 x] w fun e w' => e = .returned (.tuple #[.int .i64 0, .int .i64 9]) ∧ w = w' :=
  (rput_any h (n := 64) ⟨by omega, hn, fun h => by omega⟩ ha x).mono (fun e w' hp => by
    rcases hp with ⟨h1, _⟩ | ⟨_, h1⟩
    · omega
    · exact h1)

set_option maxHeartbeats 1000000 in
theorem rslot_yes {w : World} {g : Nat} {s : Nat → Slt} (ht : RTab w g s) {h : Int} {k : Nat} (hh : Hit s h k) (hb : h ≤ 9223372036854775807) :
    Calls Try.prog 24 #[.pointer (some ⟨g, 0, none⟩), .int .i64 h] w fun e w' => e = .returned (.int .i64 k) ∧ w = w' := by
  obtain ⟨h0, n1, n2, n3, n4⟩ := hit_num hh hb
  obtain ⟨hk, htk, hv⟩ := hh
  have c2 := ht.ct hk
  have c1 := ht.ca hk
  rw [htk] at c2
  generalize (s k).a = A at *
  have h0' : ¬ h < 0 := by omega
  have hk0 : (k : Int) < 64 := by omega
  clear hv hb htk
  go_enter Try.func24, Try.ntmps24
  go_wp2_with fail
  go_ret
  exact ⟨rfl, rfl⟩

set_option maxHeartbeats 1000000 in
theorem rslot_no {w : World} {g : Nat} {s : Nat → Slt} (ht : RTab w g s) {h : Int} (hm : ∀ k, ¬ Hit s h k) (hb : h ≤ 9223372036854775807) :
    Calls Try.prog 24 #[.pointer (some ⟨g, 0, none⟩), .int .i64 h] w fun e w' => e = .returned (.int .i64 (-1)) ∧ w = w' := by
  by_cases h0 : h < 0
  · clear hm hb
    go_enter Try.func24, Try.ntmps24
    go_wp2_with fail
    go_ret
    exact ⟨rfl, rfl⟩
  · obtain ⟨k, D, hk, n1, n2, n3, n4, hne⟩ := miss_num hm (by omega) hb
    have c2 := ht.ct hk
    have c1 := ht.ca hk
    have hk0 : (k : Int) < 64 := by omega
    cases htk : (s k).t with
    | true =>
      have hne := hne htk
      rw [htk] at c2
      generalize (s k).a = A at *
      have hne' : ¬ ((D : Int) = A) := by omega
      clear hm hb htk hne
      go_enter Try.func24, Try.ntmps24
      go_wp2_with fail
      go_ret
      exact ⟨rfl, rfl⟩
    | false =>
      rw [htk] at c2
      clear hm hb htk hne
      go_enter Try.func24, Try.ntmps24
      go_wp2_with fail
      go_ret
      exact ⟨rfl, rfl⟩

theorem rget_yes {w : World} {g : Nat} {s : Nat → Slt} (ht : RTab w g s) {h : Int} {k : Nat} (hh : Hit s h k) (hb : h ≤ 9223372036854775807) :
    Calls Try.prog 13 #[.pointer (some ⟨g, 0, none⟩), .int .i64 h] w fun e w' => e = .returned (.tuple #[.int .i64 (s k).o, .int .i64 0]) ∧ w = w' := by
  have hf := rslot_yes ht hh hb
  obtain ⟨v, c0, hv⟩ := ht.co hh.1
  rw [← hv hh.2.1]
  have hk := hh.1
  have hk0 : (k : Int) < 64 := by omega
  clear hv hh hb
  go_enter Try.func13, Try.ntmps13
  go_wp2_with fail
  (with_reducible refine hf.mono ?_)
  rintro e w' ⟨rfl, rfl⟩
  go_wp2_with fail
  go_ret2
  exact ⟨rfl, rfl⟩

theorem rget_no {w : World} {g : Nat} {s : Nat → Slt} (ht : RTab w g s) {h : Int} (hm : ∀ k, ¬ Hit s h k) (hb : h ≤ 9223372036854775807) :
    Calls Try.prog 13 #[.pointer (some ⟨g, 0, none⟩), .int .i64 h] w fun e w' => e = .returned (.tuple #[.int .i64 0, .int .i64 2]) ∧ w = w' := by
  have hf := rslot_no ht hm hb
  go_enter Try.func13, Try.ntmps13
  go_wp2_with fail
  (with_reducible refine hf.mono ?_)
  rintro e w' ⟨rfl, rfl⟩
  go_wp2_with fail
  go_ret2
  exact ⟨rfl, rfl⟩

theorem rdrop_tab {w w' : World} {g : Nat} {s : Nat → Slt} {k : Nat} (h : RTab w g s) (hk : k < 64) (he : w' = ((w.setCell ⟨g, 64 + k, none⟩ (.bool false)).setCell ⟨g, 128 + k, none⟩ (.int .i64 ((s k).a + 1 : Nat))).drew) : RTab w' g (dropS s k) ∧ Keep [g] w w' := by
  subst he
  obtain ⟨c, hb, hs, hc⟩ := h
  refine ⟨RTab.drew ⟨_, (hb.set_ _ _).set_ _ _, by simp [hs], fun i hi => ?_⟩, ((Keep.setCell _ _ (by simp) _).trans (Keep.setCell _ _ (by simp) _)).trans (Keep.drew _)⟩
  obtain ⟨h1, h2, v, h3, h4⟩ := hc i hi
  unfold dropS
  by_cases hik : i = k
  · subst hik
    rw [if_pos rfl]
    refine ⟨?_, ?_, v, ?_, fun h => by cases h⟩
    · rw [Array.getElem?_setIfInBounds_self_of_lt (by simp; omega)]
    · rw [Array.getElem?_setIfInBounds_ne (by omega), Array.getElem?_setIfInBounds_self_of_lt (by omega)]
    · rw [Array.getElem?_setIfInBounds_ne (by omega), Array.getElem?_setIfInBounds_ne (by omega)]; exact h3
  · rw [if_neg hik]
    refine ⟨?_, ?_, v, ?_, h4⟩
    · rw [Array.getElem?_setIfInBounds_ne (by omega), Array.getElem?_setIfInBounds_ne (by omega)]; exact h1
    · rw [Array.getElem?_setIfInBounds_ne (by omega), Array.getElem?_setIfInBounds_ne (by omega)]; exact h2
    · rw [Array.getElem?_setIfInBounds_ne (by omega), Array.getElem?_setIfInBounds_ne (by omega)]; exact h3

set_option maxHeartbeats 2000000 in
theorem rdrop_yes {w : World} {g : Nat} {s : Nat → Slt} (ht : RTab w g s) {h : Int} {k : Nat} (hh : Hit s h k) (hb : h ≤ 9223372036854775807) :
    Calls Try.prog 15 #[.pointer (some ⟨g, 0, none⟩), .int .i64 h] w fun e w' => e = .returned (.int .i64 0) ∧ RTab w' g (dropS s k) ∧ Keep [g] w w' := by
  have hf := rslot_yes ht hh hb
  have hk := hh.1
  have hk0 : (k : Int) < 64 := by omega
  have f1 := ht.fz (128 + k)
  have f2 := ht.fz (64 + k)
  have c2 := ht.ct hh.1
  have c1 := ht.ca hh.1
  obtain ⟨A, hA⟩ : ∃ A, (s k).a = A := ⟨_, rfl⟩
  have hAb : A < 1000000000000000000 := by have := hh.2.2; have := hh.1; omega
  have hA1 : ((A + 1 : Nat) : Int) = (A : Int) + 1 := by omega
  have HP := Lib.hid (rdrop_tab ht hh.1 (w' := _) rfl)
  rw [hA] at c1 HP
  rw [hA1] at HP
  clear hh hb hA hA1
  go_enter Try.func15, Try.ntmps15
  go_wp2_with fail
  (with_reducible refine hf.mono ?_)
  rintro e w' ⟨rfl, rfl⟩
  go_wp2_with fail
  go_region
  all_goals
    go_wp2_with fail
    go_ret
    exact ⟨rfl, HP.out.1, HP.out.2⟩

theorem rdrop_no {w : World} {g : Nat} {s : Nat → Slt} (ht : RTab w g s) {h : Int} (hm : ∀ k, ¬ Hit s h k) (hb : h ≤ 9223372036854775807) :
    Calls Try.prog 15 #[.pointer (some ⟨g, 0, none⟩), .int .i64 h] w fun e w' => e = .returned (.int .i64 2) ∧ w = w' := by
  have hf := rslot_no ht hm hb
  go_enter Try.func15, Try.ntmps15
  go_wp2_with fail
  (with_reducible refine hf.mono ?_)
  rintro e w' ⟨rfl, rfl⟩
  go_wp2_with fail
  go_ret
  exact ⟨rfl, rfl⟩
end Go.Proofs.Ytejepiobdkbgpaa
