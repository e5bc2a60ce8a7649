/-
  Package handle: Move, All, Len. No conditions but what a table is.
-/
import Derived.Test.YtejepiobdkbgpaaHn0
import Derived.Test.YtejepiobdkbgpaaHn2
namespace Go.Proofs.Ytejepiobdkbgpaa
open Go.RowKit Go.Flo
set_option maxRecDepth 100000

/-- Behind Move: the first k slots. -/
def mvS (s : Nat → Slt) (f t : Int) (k : Nat) : Nat → Slt := fun i => if i < k ∧ (s i).t = true ∧ (s i).o = f then ⟨t, (s i).a, true⟩ else s i
/-- How many of the first k stand for f. -/
def mvN (s : Nat → Slt) (f : Int) : Nat → Nat
  | 0 => 0
  | k + 1 => if (s k).t = true ∧ (s k).o = f then mvN s f k + 1 else mvN s f k
theorem mvN_le (s : Nat → Slt) (f : Int) (k : Nat) : mvN s f k ≤ k := by
  induction k with
  | zero => exact Nat.le_refl _
  | succ k ih => unfold mvN; split <;> omega
/-- What the first k slots stand for. -/
def allL (s : Nat → Slt) : Nat → List Int
  | 0 => []
  | k + 1 => if (s k).t = true then allL s k ++ [(s k).o] else allL s k
theorem allL_len (s : Nat → Slt) (k : Nat) : (allL s k).length ≤ k := by
  induction k with
  | zero => exact Nat.le_refl _
  | succ k ih =>
    unfold allL
    split
    · rw [List.length_append, List.length_singleton]; omega
    · omega
theorem allL_yes {s : Nat → Slt} {k : Nat} (h : (s k).t = true) : allL s (k + 1) = allL s k ++ [(s k).o] := by show (if _ then _ else _) = _; rw [if_pos h]
theorem allL_no {s : Nat → Slt} {k : Nat} (h : (s k).t = false) : allL s (k + 1) = allL s k := by show (if _ then _ else _) = _; rw [if_neg (by rw [h]; simp)]
theorem mvN_yes {s : Nat → Slt} {f : Int} {k : Nat} (h : (s k).t = true ∧ (s k).o = f) : mvN s f (k + 1) = mvN s f k + 1 := by show (if _ then _ else _) = _; rw [if_pos h]
theorem mvN_no {s : Nat → Slt} {f : Int} {k : Nat} (h : ¬ ((s k).t = true ∧ (s k).o = f)) : mvN s f (k + 1) = mvN s f k := by show (if _ then _ else _) = _; rw [if_neg h]
theorem allL_congr {s s' : Nat → Slt} (k : Nat) (h : ∀ i, i < k → (s i).t = (s' i).t ∧ ((s i).t = true → (s i).o = (s' i).o)) : allL s k = allL s' k := by
  induction k with
  | zero => rfl
  | succ k ih =>
    have h1 := h k (by omega)
    unfold allL
    rw [ih (fun i hi => h i (by omega)), ← h1.1]
    by_cases ht : (s k).t = true
    · rw [if_pos ht, if_pos ht, h1.2 ht]
    · rw [if_neg ht, if_neg ht]

theorem mvS_zero (s : Nat → Slt) (f t : Int) : mvS s f t 0 = s := by
  funext i
  unfold mvS
  rw [if_neg (by omega)]
theorem mvS_at (s : Nat → Slt) (f t : Int) (k : Nat) : mvS s f t k k = s k := by
  unfold mvS
  rw [if_neg (by omega)]
theorem mvS_no {s : Nat → Slt} {f t : Int} {k : Nat} (h : ¬ ((s k).t = true ∧ (s k).o = f)) : mvS s f t (k + 1) = mvS s f t k := by
  funext i
  unfold mvS
  by_cases hi : i = k
  · subst hi
    rw [if_neg (fun e => h e.2), if_neg (by omega)]
  · have : i < k + 1 ↔ i < k := by omega
    simp only [this]
theorem mvS_yes {s : Nat → Slt} {f t : Int} {k : Nat} (h1 : (s k).t = true) (h2 : (s k).o = f) : mvS s f t (k + 1) = fun i => if i = k then ⟨t, (s k).a, true⟩ else mvS s f t k i := by
  funext i
  unfold mvS
  by_cases hi : i = k
  · subst hi
    rw [if_pos ⟨by omega, h1, h2⟩, if_pos rfl]
  · have : i < k + 1 ↔ i < k := by omega
    rw [if_neg hi]
    simp only [this]

theorem set_tab {w : World} {g : Nat} {s : Nat → Slt} {k : Nat} {x : Int} (h : Tab w g s) (hk : k < 64) (ht : (s k).t = true) : Tab (w.setCell ⟨g, k * 3, none⟩ (.int .i64 x)) g (fun i => if i = k then ⟨x, (s k).a, true⟩ else s i) := by
  obtain ⟨c, hb, hs, hc⟩ := h
  refine ⟨_, hb.set_ _ _, by simp [hs], fun i hi => ?_⟩
  obtain ⟨h1, h2, v, h3, h4⟩ := hc i hi
  by_cases hik : i = k
  · subst hik
    simp only [if_true]
    refine ⟨?_, ?_, x, ?_, fun _ => rfl⟩
    · rw [Array.getElem?_setIfInBounds_ne (by omega)]; exact h1
    · rw [Array.getElem?_setIfInBounds_ne (by omega), ← ht]; exact h2
    · rw [Array.getElem?_setIfInBounds_self_of_lt (by omega)]
  · simp only [if_neg hik]
    refine ⟨?_, ?_, v, ?_, h4⟩
    · rw [Array.getElem?_setIfInBounds_ne (by omega)]; exact h1
    · rw [Array.getElem?_setIfInBounds_ne (by omega)]; exact h2
    · rw [Array.getElem?_setIfInBounds_ne (by omega)]; exact h3

def MvRel (w : World) (g : Nat) (s : Nat → Slt) (f t : Int) (x y : Value) (wr : World) : Prop :=
  ∃ k : Nat, k ≤ 64 ∧ x = .int .i64 (mvN s f k : Nat) ∧ y = .int .i64 k ∧ Tab wr g (mvS s f t k) ∧ Keep [g] w wr

set_option maxHeartbeats 1000000 in
theorem move_any {w : World} {g : Nat} {s : Nat → Slt} (h : Tab w g s) (f t : Int) :
    Calls Try.prog 16 #[.pointer (some ⟨g, 0, none⟩), .int .i64 f, .int .i64 t] w fun e w' => e = .returned (.int .i64 (mvN s f 64 : Nat)) ∧ Tab w' g (mvS s f t 64) ∧ Keep [g] w w' := by
  have H := Lib.hid h
  clear h
  go_enter Try.func16, Try.ntmps16
  go_wp2_with fail
  go_loopw [7, 12] (fun x y wr => MvRel w g s f t x y wr) (fun _ y _ => 64 - (intOf y).toNat)
  case atStart => exact ⟨0, by omega, rfl, rfl, by rw [mvS_zero]; exact H.out, Keep.refl _ _⟩
  case round =>
    obtain ⟨k, hk, rfl, rfl, ht, hkp⟩ := hrel
    have hnl := mvN_le s f k
    by_cases hlt : k < 64
    · have c2 := ht.ct hlt
      obtain ⟨v, c0, hv⟩ := ht.co hlt
      have f0 := ht.fz (k * 3)
      rw [mvS_at] at c2 hv
      cases htk : (s k).t with
      | false =>
        rw [htk] at c2
        have HN := Lib.hid (show mvN s f (k + 1) = mvN s f k from mvN_no (by rw [htk]; simp))
        have HT := Lib.hid (show Tab wr g (mvS s f t (k + 1)) by rw [mvS_no (by rw [htk]; simp)]; exact ht)
        clear htk hv ht c0
        go_wp2_with fail
        go_roundw
        case rel => exact ⟨k + 1, by omega, by rw [HN.out], by go_num, HT.out, hkp⟩
        case measure => simp [intOf]; omega
      | true =>
        rw [htk] at c2
        obtain rfl := hv htk
        by_cases ho : (s k).o = f
        · have HN := Lib.hid (show mvN s f (k + 1) = mvN s f k + 1 from mvN_yes ⟨htk, ho⟩)
          have HT := Lib.hid (show Tab (wr.setCell ⟨g, k * 3, none⟩ (.int .i64 t)) g (mvS s f t (k + 1)) by
            rw [mvS_yes htk ho]
            have := set_tab (x := t) ht hlt (by rw [mvS_at]; exact htk)
            rw [mvS_at] at this
            exact this)
          have HK := Lib.hid (hkp.trans (Keep.setCell wr ⟨g, k * 3, none⟩ (by simp) (.int .i64 t)))
          rw [ho] at c0
          clear htk ho hv ht hkp
          go_wp2_with fail
          go_roundw
          case rel => exact ⟨k + 1, by omega, by rw [HN.out]; go_num, by go_num, HT.out, HK.out⟩
          case measure => simp [intOf]; omega
        · have HN := Lib.hid (show mvN s f (k + 1) = mvN s f k from mvN_no (fun e => ho e.2))
          have HT := Lib.hid (show Tab wr g (mvS s f t (k + 1)) by rw [mvS_no (fun e => ho e.2)]; exact ht)
          have hof : ((s k).o == f) = false := by simp [ho]
          clear htk hv ht
          go_wp2_with fail
          go_roundw
          case rel => exact ⟨k + 1, by omega, by rw [HN.out], by go_num, HT.out, hkp⟩
          case measure => simp [intOf]; omega
    · obtain rfl : k = 64 := by omega
      have HT := Lib.hid ht
      have HK := Lib.hid hkp
      clear ht hkp
      go_wp2_with fail
      go_ret
      exact ⟨rfl, HT.out, HK.out⟩

theorem move_nil (w : World) (f t : Int) : Calls Try.prog 16 #[.pointer none, .int .i64 f, .int .i64 t] w fun e w' => e = .returned (.int .i64 0) ∧ w = w' := by
  go_enter Try.func16, Try.ntmps16
  go_wp2_with fail
  go_ret
  exact ⟨rfl, rfl⟩

theorem slot_info : (Try.prog.info? 52).map (·.size) = some 192 := by kernel_rfl
theorem slot_part : (Try.prog.info? 51).map (·.size) = some 3 := by kernel_rfl
theorem slot_idx (W : World) (c : Array Value) (k : Nat) (hk : k < 64) : (Instr.index 52 (.agg c) (.int .i64 k)).run Try.prog W = .ok (.agg (c.extract (k * 3) (k * 3 + 3))) W := by
  have h1 := slot_part
  cases hq : Try.prog.info? 51 with
  | none => simp [hq] at h1
  | some i =>
    simp [hq] at h1
    have hu := Try.underlying51
    have hagg : (isAgg 51).run Try.prog W = .ok true W := by
      unfold isAgg
      rw [Sem.run_bind, run_underlying hu W]
      simp [Result.andThen]
    unfold Instr.index
    simp [asIntOf, Sem.run_bind, run_underlying Try.underlying52 W, hk, part, hagg, sizeOf, typeInfo, hq, h1, Result.andThen]

theorem ext3 {c : Array Value} {o : Nat} {v0 v1 v2 : Value} (hs : o + 3 ≤ c.size) (h0 : c[o]? = some v0) (h1 : c[o + 1]? = some v1) (h2 : c[o + 2]? = some v2) : c.extract o (o + 3) = #[v0, v1, v2] := by
  apply Array.ext_getElem?
  intro i
  rw [Array.getElem?_extract]
  have hm : min (o + 3) c.size - o = 3 := by omega
  rw [hm]
  match i with
  | 0 => simpa using h0
  | 1 => simpa using h1
  | 2 => simpa using h2
  | i + 3 => simp; omega

def AlRel (w : World) (s : Nat → Slt) (x y : Value) (wr : World) : Prop :=
  ∃ k : Nat, k ≤ 64 ∧ y = .int .i64 k ∧ wr.ownsRow w.heap.size 3 1 x (allL s k).length ((allL s k).map i64v) ∧ Keep [] w wr

/-- A list that was not there. -/
def NewL (L : List Int) (w : World) (e : Ending) (w' : World) : Prop := ∃ A c, e = .returned (.slice A L.length c) ∧ IntL w' A c L ∧ Keep [] w w'

set_option maxHeartbeats 1000000 in
theorem all_any {w : World} {g : Nat} {s : Nat → Slt} (h : Tab w g s) :
    Calls Try.prog 21 #[.pointer (some ⟨g, 0, none⟩)] w (NewL (allL s 64) w) := by
  obtain ⟨c, hb, hs, hc⟩ := h
  have hr : w.rangeAt g 0 c.toList := fun j v hj => by
    rw [Nat.zero_add, hb.cell]
    simpa using hj
  have hi : (Try.prog.info? 52).map (·.size) = some c.toList.length := by rw [slot_info]; simp [hs]
  have HC := Lib.hid (And.intro hs hc)
  clear hb hs hc
  go_enter Try.func21, Try.ntmps21
  go_wp2_with (refine wpList_load_mid rfl 52 (.tmp 10) rfl g 0 rfl c.toList _ hr Try.underlying52 rfl hi ?_)
  clear hr hi
  rw [Array.toArray_toList]
  go_loopw [3, 12] (fun x y wr => AlRel w s x y wr) (fun _ y _ => 64 - (intOf y).toNat)
  case atStart => exact ⟨0, by omega, rfl, ⟨rfl, Or.inl ⟨rfl, rfl⟩⟩, Keep.refl _ _⟩
  case round =>
    obtain ⟨k, hk, rfl, hown, hkp⟩ := hrel
    have hle := allL_len s k
    have hsz := hkp.size
    by_cases hlt : k < 64
    · obtain ⟨h1, h2, v, h3, hv⟩ := HC.out.2 k hlt
      have hx := ext3 (by have := HC.out.1; omega) h3 h1 h2
      have hi : ∀ W, (Instr.index 52 (.agg c) (.int .i64 k)).run Try.prog W = .ok (.agg #[.int .i64 v, .int .i64 (s k).a, .bool (s k).t]) W := fun W => by rw [slot_idx W c k hlt, hx]
      clear h1 h2 h3 hx
      generalize (s k).a = a at *
      have kn : Keep [] wr (wr.alloc (.cells #[.int .i64 v, .int .i64 a, .bool (s k).t] 51)) := Keep.alloc _ _
      cases htk : (s k).t with
      | false =>
        have HL := Lib.hid (show allL s (k + 1) = allL s k from allL_no htk)
        rw [htk] at hi kn
        have HO := Lib.hid (And.intro (owns_kept hown kn) (hkp.trans kn))
        clear hown kn hkp hv htk
        go_wp2_with fail
        go_roundw
        case rel => exact ⟨k + 1, by omega, by go_num, by rw [HL.out]; exact HO.out.1, HO.out.2⟩
        case measure => simp [intOf]; omega
      | true =>
        have HL := Lib.hid (show allL s (k + 1) = allL s k ++ [v] by rw [hv htk]; exact allL_yes htk)
        rw [htk] at hi kn
        obtain ⟨w1, hw1⟩ : ∃ w1, wr.alloc (.cells #[.int .i64 v, .int .i64 a, .bool true] 51) = w1 := ⟨_, rfl⟩
        have k2 : Keep [] w1 (w1.alloc (.cells #[.int .i64 v] 3)) := Keep.alloc _ _
        have hz : wr.heap.size + 1 = w1.heap.size := by rw [← hw1]; simp
        rw [hw1] at kn
        have HO := Lib.hid (And.intro (owns_kept hown (kn.trans k2)) (hkp.trans (kn.trans k2)))
        have hN1 := one_new6 w1 (.int .i64 v) 3
        rw [← hz] at hN1
        have HN := Lib.hid hN1
        clear hown kn hkp hv htk k2 hN1 hz
        obtain ⟨ii, hii, hz0, hz1, hz2⟩ := info_of intparts
        subst hw1
        go_wp2_with (at_builtin; refine wpList_append_own_at _ rfl (.tmp 17) (.tmp 20) 30 rfl w.heap.size 3 ii (.int .i64 0) 1 8 Try.underlying30 hii hz0 hz1 hz2 rfl (by omega) _ (allL s k).length ((allL s k).map i64v) rfl HO.out.1 ⟨wr.heap.size + 1, 0, none⟩ 1 1 [.int .i64 v] rfl rfl HN.out ?c3 ?c4 ?c5 ?c6 ?_)
        case c3 => first | rfl | (intro z hz; simp at hz; subst hz; rfl)
        case c4 => unfold maxLen; omega
        case c5 => omega
        case c6 => first | omega | (simp; omega)
        intro v' w' hown hgrow _ _
        have hkq := grown_keep HO.out.2 (Nat.le_refl _) HO.out.1 hgrow
        have HH := Lib.hid (And.intro hown hkq)
        clear hown hgrow hkq
        go_wp2_with fail
        go_roundw
        case rel => exact ⟨k + 1, by omega, by go_num, by rw [HL.out, List.map_append, List.length_append]; exact HH.out.1, HH.out.2⟩
        case measure => simp [intOf]; omega
    · obtain rfl : k = 64 := by omega
      obtain ⟨A, cc, rfl, hL⟩ := owns_intl hown
      have HL := Lib.hid (And.intro hL hkp)
      clear hown hL hkp
      go_wp2_with fail
      go_ret
      exact ⟨A, cc, rfl, HL.out.1, HL.out.2⟩

theorem all_nil (w : World) : Calls Try.prog 21 #[.pointer none] w fun e w' => e = .returned (.slice none 0 0) ∧ w = w' := by
  go_enter Try.func21, Try.ntmps21
  go_wp2_with fail
  go_ret
  exact ⟨rfl, rfl⟩

theorem hlen_any {w : World} {g : Nat} {s : Nat → Slt} (h : Tab w g s) :
    Calls Try.prog 19 #[.pointer (some ⟨g, 0, none⟩)] w fun e w' => e = .returned (.int .i64 ((allL s 64).length : Nat)) ∧ Keep [] w w' := by
  have hf := all_any h
  generalize allL s 64 = L at *
  go_enter Try.func19, Try.ntmps19
  go_wp2_with fail
  (with_reducible refine hf.mono ?_)
  rintro e w' ⟨A, c, rfl, hL, hk⟩
  go_wp2_with fail
  go_ret
  exact ⟨rfl, hk⟩

theorem hlen_nil (w : World) : Calls Try.prog 19 #[.pointer none] w fun e w' => e = .returned (.int .i64 0) ∧ w = w' := by
  have hf := all_nil w
  go_enter Try.func19, Try.ntmps19
  go_wp2_with fail
  (with_reducible refine hf.mono ?_)
  rintro e w' ⟨rfl, rfl⟩
  go_wp2_with fail
  go_ret
  exact ⟨rfl, rfl⟩
end Go.Proofs.Ytejepiobdkbgpaa
