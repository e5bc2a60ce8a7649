/-
  Package handle: a table of handles in memory; New, Put, find, Get, Drop. No conditions but what a table is.
-/
import Derived.Test.YtejepiobdkbgpaaProg
import Derived.Test.YtejepiobdkbgpaaMem
import Derived.Test.YtejepiobdkbgpaaRound
import Derived.Deep.WholeRow
import Derived.Deep.MidRow
namespace Go.Proofs.Ytejepiobdkbgpaa
open Go.RowKit Go.Flo
set_option maxRecDepth 100000

theorem keep_since {own : List Nat} {w w' w'' : World} (h : Keep [] w w') (k : Keep own w' w'') (ho : ∀ k ∈ own, w.heap.size ≤ k) : Keep [] w w'' :=
  ⟨k.os.trans h.os, k.tape.trans h.tape, k.output.trans h.output, Nat.le_trans h.size k.size, fun i hi hm => (k.block i (Nat.lt_of_lt_of_le hi h.size) (fun hx => by have := ho i hx; omega)).trans (h.block i hi hm)⟩

/-- A slot: what it stands for, its age, whether it is taken. -/
structure Slt where
  o : Int
  a : Nat
  t : Bool

/-- A table of handles in block g. -/
def Tab (w : World) (g : Nat) (s : Nat → Slt) : Prop :=
  ∃ c : Array Value, Blk w g 54 c ∧ c.size = 192 ∧ ∀ i, i < 64 → c[i * 3 + 1]? = some (.int .i64 (s i).a) ∧ c[i * 3 + 2]? = some (.bool (s i).t) ∧ ∃ v, c[i * 3]? = some (.int .i64 v) ∧ ((s i).t = true → v = (s i).o)

theorem Tab.lt {w : World} {g : Nat} {s : Nat → Slt} (h : Tab w g s) : g < w.heap.size := by
  obtain ⟨c, hb, _⟩ := h
  exact hb.lt
theorem Tab.keep {w w' : World} {g : Nat} {s : Nat → Slt} {own : List Nat} (h : Tab w g s) (hk : Keep own w w') (hn : g ∉ own) : Tab w' g s := by
  obtain ⟨c, hb, r⟩ := h
  exact ⟨c, hb.keep hk hn, r⟩
theorem Tab.dr {w w' : World} {g : Nat} {s : Nat → Slt} (h : Tab w g s) (hk : Dr w w') : Tab w' g s := h.keep (own := []) (Keep.dr hk) (by simp)
theorem Tab.congr {w : World} {g : Nat} {s s' : Nat → Slt} (h : Tab w g s) (he : ∀ i, i < 64 → (s i).a = (s' i).a ∧ (s i).t = (s' i).t ∧ ((s i).t = true → (s i).o = (s' i).o)) : Tab w g s' := by
  obtain ⟨c, hb, hs, hc⟩ := h
  refine ⟨c, hb, hs, fun i hi => ?_⟩
  obtain ⟨h1, h2, v, h3, h4⟩ := hc i hi
  obtain ⟨e1, e2, e3⟩ := he i hi
  rw [← e1, ← e2]
  exact ⟨h1, h2, v, h3, fun ht => (h4 ht).trans (e3 ht)⟩
section
variable {w : World} {g : Nat} {s : Nat → Slt}
theorem Tab.ca (h : Tab w g s) {i : Nat} (hi : i < 64) : w.cell? ⟨g, i * 3 + 1, none⟩ = some (.int .i64 (s i).a) := by
  obtain ⟨c, hb, hs, hc⟩ := h
  rw [hb.cell]; exact (hc i hi).1
theorem Tab.ct (h : Tab w g s) {i : Nat} (hi : i < 64) : w.cell? ⟨g, i * 3 + 2, none⟩ = some (.bool (s i).t) := by
  obtain ⟨c, hb, hs, hc⟩ := h
  rw [hb.cell]; exact (hc i hi).2.1
theorem Tab.co (h : Tab w g s) {i : Nat} (hi : i < 64) : ∃ v, w.cell? ⟨g, i * 3, none⟩ = some (.int .i64 v) ∧ ((s i).t = true → v = (s i).o) := by
  obtain ⟨c, hb, hs, hc⟩ := h
  rw [hb.cell]; exact (hc i hi).2.2
theorem Tab.fz (h : Tab w g s) (i : Nat) : w.frozen? ⟨g, i, none⟩ = false := by
  obtain ⟨c, hb, hs, hc⟩ := h
  exact hb.frozen i
end

/-- At first every slot is free. -/
def noS : Nat → Slt := fun _ => ⟨0, 0, false⟩
/-- The slot k taken for x. -/
def putS (s : Nat → Slt) (k : Nat) (x : Int) : Nat → Slt := fun i => if i = k then ⟨x, (s k).a, true⟩ else s i
/-- The slot k free, and one older. -/
def dropS (s : Nat → Slt) (k : Nat) : Nat → Slt := fun i => if i = k then ⟨0, (s k).a + 1, false⟩ else s i
/-- The least free slot; 64: there is none. -/
def IsLf (s : Nat → Slt) (k : Nat) : Prop := k ≤ 64 ∧ (∀ i, i < k → (s i).t = true) ∧ (k < 64 → (s k).t = false)
/-- The handle h stands for something, in slot k. -/
def Hit (s : Nat → Slt) (h : Int) (k : Nat) : Prop := k < 64 ∧ (s k).t = true ∧ h = (s k).a * 64 + k

theorem lf_of (s : Nat → Slt) : ∃ k, IsLf s k := by
  have : ∀ n, n ≤ 64 → (∀ i, i < n → (s i).t = true) ∨ ∃ k, IsLf s k := by
    intro n
    induction n with
    | zero => exact fun _ => Or.inl (fun i hi => by omega)
    | succ n ih =>
      intro hn
      rcases ih (by omega) with h | h
      · cases ht : (s n).t with
        | true =>
          left
          intro i hi
          rcases (show i < n ∨ i = n by omega) with h1 | rfl
          · exact h i h1
          · exact ht
        | false => exact Or.inr ⟨n, by omega, h, fun _ => ht⟩
      · exact Or.inr h
  rcases this 64 (by omega) with h | h
  · exact ⟨64, by omega, h, fun h => by omega⟩
  · exact h

/-- The cells of a table at first. -/
def tabZ : Array Value := ((List.range 192).map (fun j => if j % 3 = 2 then Value.bool false else Value.int .i64 0)).toArray
theorem tabZ_size : tabZ.size = 192 := by simp [tabZ]
theorem tabZ_ne : ¬ tabZ = #[] := fun h => by have := tabZ_size; rw [h] at this; cases this
theorem tab_info : (Try.prog.info? 54).map (fun i => (i.zero, i.size)) = some (some (.agg tabZ), 192) := by kernel_rfl

theorem tab_zero (w : World) : Tab (w.alloc (.cells tabZ 54)) w.heap.size noS := by
  refine ⟨_, Blk.new _ _ _, tabZ_size, fun i hi => ?_⟩
  unfold tabZ
  have h1 : i * 3 + 1 < 192 := by omega
  have h2 : i * 3 + 2 < 192 := by omega
  have h0 : i * 3 < 192 := by omega
  have e0 : ¬ i * 3 % 3 = 2 := by omega
  have e1 : ¬ (i * 3 + 1) % 3 = 2 := by omega
  have e2 : (i * 3 + 2) % 3 = 2 := by omega
  refine ⟨?_, ?_, 0, ?_, fun h => by cases h⟩
  · simp [noS, h1, e1]
  · simp [noS, h2, e2]
  · simp [h0]

/-- A table that was not there. -/
theorem new_any (w : World) : Calls Try.prog 9 #[] w fun e w' => ∃ g, e = .returned (.pointer (some ⟨g, 0, none⟩)) ∧ Tab w' g noS ∧ w.heap.size ≤ g ∧ Keep [] w w' := by
  have hz := (zero_of_info tab_info).1
  have hne := tabZ_ne
  go_enter Try.func9, Try.ntmps9
  go_wp2_with fail
  go_ret
  exact ⟨w.heap.size, rfl, tab_zero w, Nat.le_refl _, Keep.alloc _ _⟩

/-- What holds at the label of Put. -/
def PutJ (w : World) (g : Nat) (s : Nat → Slt) (x : Int) (a' : Act) (w' : World) : Prop :=
  w' = w ∧ ∃ (k : Nat) (u7 u8 u9 u10 u11 u12 u13 u14 u15 u16 u17 u18 u19 u20 u21 u22 u23 u24 u25 u26 u27 u28 u29 u30 u31 u32 u33 u34 u35 u36 u37 u38 u39 : Value), k ≤ 64 ∧ (∀ i, i < k → (s i).t = true) ∧
    a' = { tmps := #[.pointer (some ⟨g, 0, none⟩), .int .i64 x, undef, undef, .int .i64 0, .int .i64 0, .int .i64 k, u7, u8, u9, u10, u11, u12, u13, u14, u15, u16, u17, u18, u19, u20, u21, u22, u23, u24, u25, u26, u27, u28, u29, u30, u31, u32, u33, u34, u35, u36, u37, u38, u39], defers := [] }

theorem put_tab {w w' : World} {g : Nat} {s : Nat → Slt} {k : Nat} {x : Int} (h : Tab w g s) (hk : k < 64) (he : w' = (w.setCell ⟨g, k * 3, none⟩ (.int .i64 x)).setCell ⟨g, k * 3 + 2, none⟩ (.bool true)) : Tab w' g (putS s k x) ∧ Keep [g] w w' := by
  subst he
  obtain ⟨c, hb, hs, hc⟩ := h
  refine ⟨⟨_, (hb.set_ _ _).set_ _ _, by simp [hs], fun i hi => ?_⟩, (Keep.setCell _ _ (by simp) _).trans (Keep.setCell _ _ (by simp) _)⟩
  obtain ⟨h1, h2, v, h3, h4⟩ := hc i hi
  unfold putS
  by_cases hik : i = k
  · subst hik
    rw [if_pos rfl]
    refine ⟨?_, ?_, x, ?_, fun _ => rfl⟩
    · rw [Array.getElem?_setIfInBounds_ne (by omega), Array.getElem?_setIfInBounds_ne (by omega)]; exact h1
    · rw [Array.getElem?_setIfInBounds_self_of_lt (by simp; omega)]
    · rw [Array.getElem?_setIfInBounds_ne (by omega), Array.getElem?_setIfInBounds_self_of_lt (by omega)]
  · rw [if_neg hik]
    refine ⟨?_, ?_, v, ?_, h4⟩
    · rw [Array.getElem?_setIfInBounds_ne (by omega), Array.getElem?_setIfInBounds_ne (by omega)]; exact h1
    · rw [Array.getElem?_setIfInBounds_ne (by omega), Array.getElem?_setIfInBounds_ne (by omega)]; exact h2
    · rw [Array.getElem?_setIfInBounds_ne (by omega), Array.getElem?_setIfInBounds_ne (by omega)]; exact h3

def PutPost (g : Nat) (s : Nat → Slt) (k : Nat) (x : Int) (w : World) (e : Ending) (w' : World) : Prop :=
  (k < 64 ∧ e = .returned (.tuple #[.int .i64 ((s k).a * 64 + k), .int .i64 0]) ∧ Tab w' g (putS s k x) ∧ Keep [g] w w') ∨ (k = 64 ∧ e = .returned (.tuple #[.int .i64 0, .int .i64 9]) ∧ w = w')

theorem then_goto {K : Act → World → Prop} {Q : Exit → Act → World → Prop} {l : Nat} {a : Act} {w : World} (h : Q (.goto l) a w) : Exit.then K Q (.goto l) a w := h

set_option maxHeartbeats 1000000 in
theorem put_any {w : World} {g : Nat} {s : Nat → Slt} (h : Tab w g s) {n : Nat} (hn : IsLf s n) (ha : (s n).a < 1000000) (x : Int) :
    Calls Try.prog 10 #[.pointer (some ⟨g, 0, none⟩), .int .i64 x] w (PutPost g s n x w) := by
  have HN := Lib.hid hn
  clear hn
  go_enter Try.func10, Try.ntmps10
  go_wp2_with fail
  refine wp_scope_round 0 (PutJ w g s x) (fun a' _ => 64 - slotNat 6 a') rfl ?_ ?_
  · rintro a' w' ⟨rfl, k, u7, u8, u9, u10, u11, u12, u13, u14, u15, u16, u17, u18, u19, u20, u21, u22, u23, u24, u25, u26, u27, u28, u29, u30, u31, u32, u33, u34, u35, u36, u37, u38, u39, hk, hall, rfl⟩
    have HA := Lib.hid hall
    clear hall
    by_cases hk64 : k = 64
    · subst hk64
      go_wp2_with fail
      apply jump_ret
      go_ret2
      refine Or.inr ⟨?_, rfl, rfl⟩
      rcases (show n < 64 ∨ n = 64 by have := HN.out.1; omega) with h1 | h1
      · have := HN.out.2.2 h1
        rw [HA.out n h1] at this
        cases this
      · exact h1
    · have hklt : k < 64 := by omega
      have ht := h.ct hklt
      cases htk : (s k).t with
      | true =>
        rw [htk] at ht
        have HT := Lib.hid htk
        clear htk
        go_wp2_with fail
        go_step3
        apply then_goto
        apply jump_goto
        refine ⟨⟨rfl, k + 1, _, _, _, _, _, _, _, _, _, _, _, _, _, _, _, _, _, _, _, _, _, _, _, _, _, _, _, _, _, _, _, _, _, by omega, fun i hi => ?_, rfl⟩, ?_⟩
        · rcases (show i < k ∨ i = k by omega) with h1 | rfl
          · exact HA.out i h1
          · exact HT.out
        · simp [slotNat]
          omega
      | false =>
        rw [htk] at ht
        have hkn : k = n := by
          rcases (show k < n ∨ n < k ∨ k = n by omega) with h1 | h1 | h1
          · have := HN.out.2.1 k h1
            rw [htk] at this
            cases this
          · have := HN.out.2.2 (by omega)
            rw [HA.out n h1] at this
            cases this
          · exact h1
        subst hkn
        clear htk
        obtain ⟨v0, ho, _⟩ := h.co hklt
        have hag := h.ca hklt
        have f0 := h.fz (k * 3)
        have f2 := h.fz (k * 3 + 2)
        generalize hA : (s k).a = A at *
        have HAA := Lib.hid hA
        clear hA
        go_wp2_with fail
        apply jump_ret
        go_ret2
        obtain ⟨r1, r2⟩ := put_tab (w' := _) (x := x) h hklt rfl
        exact Or.inl ⟨hklt, by rw [HAA.out]; rfl, r1, r2⟩
  · intro hfirst
    go_wp2_with fail
    go_step3
    rename_i hK
    exact hK _ _ (hfirst _ _ ⟨rfl, 0, _, _, _, _, _, _, _, _, _, _, _, _, _, _, _, _, _, _, _, _, _, _, _, _, _, _, _, _, _, _, _, _, _, by omega, fun i hi => by omega, rfl⟩)

theorem put_at {w : World} {g : Nat} {s : Nat → Slt} (h : Tab w g s) {n : Nat} (hn : IsLf s n) (hlt : n < 64) (ha : (s n).a < 1000000) (x H : Int) (hH : H = (s n).a * 64 + n) :
    Calls Try.prog 10 #[.pointer (some ⟨g, 0, none⟩), .int .i64 x] w fun e w' => e = .returned (.tuple #[.int .i64 H, .int .i64 0]) ∧ Tab w' g (putS s n x) ∧ Keep [g] w w' :=
  (put_any h hn ha x).mono (fun e w' hp => by
    rcases hp with ⟨_, h1, h2⟩ | ⟨h1, _⟩
    · rw [← hH] at h1
      exact ⟨h1, h2⟩
    · omega)
theorem put_full {w : World} {g : Nat} {s : Nat → Slt} (h : Tab w g s) (hn : ∀ i, i < 64 → (s i).t = true) (ha : (s 64).a < 1000000) (x : Int) :
    Calls Try.prog 10 #[.pointer (some ⟨g, 0, none⟩), .int .i64 x] w fun e w' => e = .returned (.tuple #[.int .i64 0, .int .i64 9]) ∧ w = w' :=
  (put_any h (n := 64) ⟨by omega, hn, fun h => by omega⟩ ha x).mono (fun e w' hp => by
    rcases hp with ⟨h1, _⟩ | ⟨_, h1⟩
    · omega
    · exact h1)

theorem put_nil (w : World) (x : Int) : Calls Try.prog 10 #[.pointer none, .int .i64 x] w fun e w' => e = .returned (.tuple #[.int .i64 0, .int .i64 1]) ∧ w = w' := by
  go_enter Try.func10, Try.ntmps10
  go_wp2_with fail
  refine wp_scope_round 0 (fun _ _ => False) (fun a' _ => 0) rfl (fun _ _ h => h.elim) ?_
  intro hfirst
  go_wp2_with fail
  apply jump_ret
  go_ret2
  exact ⟨rfl, rfl⟩
end Go.Proofs.Ytejepiobdkbgpaa
