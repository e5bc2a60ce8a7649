/-
  The document's twin of package handle: Move, All. No conditions but what handles are.
-/
import Derived.Test.YtejepiobdkbgpaaHn3
import Derived.Test.YtejepiobdkbgpaaRn1
namespace Go.Proofs.Ytejepiobdkbgpaa
open Go.RowKit Go.Flo
set_option maxRecDepth 100000

theorem rset_tab {w : World} {g : Nat} {s : Nat → Slt} {k : Nat} {x : Int} (h : RTab w g s) (hk : k < 64) (ht : (s k).t = true) : RTab (w.setCell ⟨g, k, none⟩ (.int .i64 x)) g (fun i => if i = k then ⟨x, (s k).a, true⟩ else s i) := by
  obtain ⟨c, hb, hs, hc⟩ := h
  refine ⟨_, hb.set_ _ _, by simp [hs], fun i hi => ?_⟩
  obtain ⟨h1, h2, v, h3, h4⟩ := hc i hi
  by_cases hik : i = k
  · subst hik
    simp only [if_true]
    refine ⟨?_, ?_, x, ?_, fun _ => rfl⟩
    · rw [Array.getElem?_setIfInBounds_ne (by omega)]; exact h1
    · rw [Array.getElem?_setIfInBounds_ne (by omega), ← ht]; exact h2
    · rw [Array.getElem?_setIfInBounds_self_of_lt (by omega)]
  · simp only [if_neg hik]
    refine ⟨?_, ?_, v, ?_, h4⟩
    · rw [Array.getElem?_setIfInBounds_ne (by omega)]; exact h1
    · rw [Array.getElem?_setIfInBounds_ne (by omega)]; exact h2
    · rw [Array.getElem?_setIfInBounds_ne (by omega)]; exact h3

def RmRel (w : World) (g : Nat) (s : Nat → Slt) (f t : Int) (x y : Value) (wr : World) : Prop :=
  ∃ k : Nat, k ≤ 64 ∧ x = .int .i64 (mvN s f k : Nat) ∧ y = .int .i64 k ∧ RTab wr g (mvS s f t k) ∧ Keep [g] w wr

set_option maxHeartbeats 1000000 in
theorem rmove_any {w : World} {g : Nat} {s : Nat → Slt} (h : RTab w g s) (f t : Int) :
    Calls Try.prog 17 #[.pointer (some ⟨g, 0, none⟩), .int .i64 f, .int .i64 t] w fun e w' => e = .returned (.int .i64 (mvN s f 64 : Nat)) ∧ RTab w' g (mvS s f t 64) ∧ Keep [g] w w' := by
  have H := Lib.hid h
  clear h
  go_enter Try.func17, Try.ntmps17
  go_wp2_with fail
  go_loopw [7, 9] (fun x y wr => RmRel w g s f t x y wr) (fun _ y _ => 64 - (intOf y).toNat)
  case atStart => exact ⟨0, by omega, rfl, rfl, by rw [mvS_zero]; exact H.out, Keep.refl _ _⟩
  case round =>
    obtain ⟨k, hk, rfl, rfl, ht, hkp⟩ := hrel
    have hnl := mvN_le s f k
    by_cases hlt : k < 64
    · have hkI : (k : Int) < 64 := by omega
      have c2 := ht.ct hlt
      obtain ⟨v, c0, hv⟩ := ht.co hlt
      have f0 := ht.fz k
      rw [mvS_at] at c2 hv
      cases htk : (s k).t with
      | false =>
        rw [htk] at c2
        have HN := Lib.hid (show mvN s f (k + 1) = mvN s f k from mvN_no (by rw [htk]; simp))
        have HT := Lib.hid (show RTab wr g (mvS s f t (k + 1)) by rw [mvS_no (by rw [htk]; simp)]; exact ht)
        clear htk hv ht c0
        go_wp2_with fail
        go_roundw
        case rel => exact ⟨k + 1, by omega, by rw [HN.out], by go_num, HT.out, hkp⟩
        case measure => simp [intOf]; omega
      | true =>
        rw [htk] at c2
        obtain rfl := hv htk
        by_cases ho : (s k).o = f
        · have HN := Lib.hid (show mvN s f (k + 1) = mvN s f k + 1 from mvN_yes ⟨htk, ho⟩)
          have HT := Lib.hid (show RTab (wr.setCell ⟨g, k, none⟩ (.int .i64 t)) g (mvS s f t (k + 1)) by
            rw [mvS_yes htk ho]
            have := rset_tab (x := t) ht hlt (by rw [mvS_at]; exact htk)
            rw [mvS_at] at this
            exact this)
          have HK := Lib.hid (hkp.trans (Keep.setCell wr ⟨g, k, none⟩ (by simp) (.int .i64 t)))
          rw [ho] at c0
          clear htk ho hv ht hkp
          go_wp2_with fail
          go_roundw
          case rel => exact ⟨k + 1, by omega, by rw [HN.out]; go_num, by go_num, HT.out, HK.out⟩
          case measure => simp [intOf]; omega
        · have HN := Lib.hid (show mvN s f (k + 1) = mvN s f k from mvN_no (fun e => ho e.2))
          have HT := Lib.hid (show RTab wr g (mvS s f t (k + 1)) by rw [mvS_no (fun e => ho e.2)]; exact ht)
          have hof : ((s k).o == f) = false := by simp [ho]
          clear htk hv ht
          go_wp2_with fail
          go_roundw
          case rel => exact ⟨k + 1, by omega, by rw [HN.out], by go_num, HT.out, hkp⟩
          case measure => simp [intOf]; omega
    · obtain rfl : k = 64 := by omega
      have HT := Lib.hid ht
      have HK := Lib.hid hkp
      clear ht hkp
      go_wp2_with fail
      go_ret
      exact ⟨rfl, HT.out, HK.out⟩

def RaRel (w : World) (s : Nat → Slt) (x y : Value) (wr : World) : Prop :=
  ∃ k : Nat, k ≤ 64 ∧ y = .int .i64 k ∧ wr.ownsRow w.heap.size 3 1 x (allL s k).length ((allL s k).map i64v) ∧ Keep [] w wr

set_option maxHeartbeats 1000000 in
theorem rall_any {w : World} {g : Nat} {s : Nat → Slt} (h : RTab w g s) :
    Calls Try.prog 18 #[.pointer (some ⟨g, 0, none⟩)] w (NewL (allL s 64) w) := by
  have H := Lib.hid h
  have hgl := h.lt
  clear h
  go_enter Try.func18, Try.ntmps18
  go_wp2_with fail
  go_loopw [3, 5] (fun x y wr => RaRel w s x y wr) (fun _ y _ => 64 - (intOf y).toNat)
  case atStart => exact ⟨0, by omega, rfl, ⟨rfl, Or.inl ⟨rfl, rfl⟩⟩, Keep.refl _ _⟩
  case round =>
    obtain ⟨k, hk, rfl, hown, hkp⟩ := hrel
    have hle := allL_len s k
    have hsz := hkp.size
    by_cases hlt : k < 64
    · have hkI : (k : Int) < 64 := by omega
      have ht := H.out.keep hkp (by simp)
      have c2 := ht.ct hlt
      obtain ⟨v, c0, hv⟩ := ht.co hlt
      clear ht
      cases htk : (s k).t with
      | false =>
        have HL := Lib.hid (show allL s (k + 1) = allL s k from allL_no htk)
        rw [htk] at c2
        have HO := Lib.hid (And.intro hown hkp)
        clear hown hkp hv htk c0
        go_wp2_with fail
        go_roundw
        case rel => exact ⟨k + 1, by omega, by go_num, by rw [HL.out]; exact HO.out.1, HO.out.2⟩
        case measure => simp [intOf]; omega
      | true =>
        have HL := Lib.hid (show allL s (k + 1) = allL s k ++ [v] by rw [hv htk]; exact allL_yes htk)
        rw [htk] at c2
        have k2 : Keep [] wr (wr.alloc (.cells #[.int .i64 v] 3)) := Keep.alloc _ _
        have HO := Lib.hid (And.intro (owns_kept hown k2) (hkp.trans k2))
        have HN := Lib.hid (one_new6 wr (.int .i64 v) 3)
        clear hown hkp hv htk k2
        obtain ⟨ii, hii, hz0, hz1, hz2⟩ := info_of intparts
        go_wp2_with (at_builtin; refine wpList_append_own_at _ rfl (.tmp 14) (.tmp 21) 30 rfl w.heap.size 3 ii (.int .i64 0) 1 8 Try.underlying30 hii hz0 hz1 hz2 rfl (by omega) _ (allL s k).length ((allL s k).map i64v) rfl HO.out.1 ⟨wr.heap.size, 0, none⟩ 1 1 [.int .i64 v] rfl rfl HN.out ?c3 ?c4 ?c5 ?c6 ?_)
        case c3 => first | rfl | (intro z hz; simp at hz; subst hz; rfl)
        case c4 => unfold maxLen; omega
        case c5 => omega
        case c6 => first | omega | (simp; omega)
        intro v' w' hown hgrow _ _
        have hkq := grown_keep HO.out.2 (Nat.le_refl _) HO.out.1 hgrow
        have HH := Lib.hid (And.intro hown hkq)
        clear hown hgrow hkq
        go_wp2_with fail
        go_roundw
        case rel => exact ⟨k + 1, by omega, by go_num, by rw [HL.out, List.map_append, List.length_append]; exact HH.out.1, HH.out.2⟩
        case measure => simp [intOf]; omega
    · obtain rfl : k = 64 := by omega
      obtain ⟨A, cc, rfl, hL⟩ := owns_intl hown
      have HL := Lib.hid (And.intro hL hkp)
      clear hown hL hkp
      go_wp2_with fail
      go_ret
      exact ⟨A, cc, rfl, HL.out.1, HL.out.2⟩
end Go.Proofs.Ytejepiobdkbgpaa
