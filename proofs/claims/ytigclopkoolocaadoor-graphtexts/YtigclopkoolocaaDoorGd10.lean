/-
  The program's package graph: nodes the same; Alike. No conditions but what is in memory.
-/
import Derived.Test.YtigclopkoolocaaDoorGd9
namespace Go.Proofs.YtigclopkoolocaaDoor
open Go.RowKit Go.Flo Go.Bit
set_option maxRecDepth 100000

set_option maxHeartbeats 1000000 in
theorem sameNode_any (w : World) (K K' : Int) (A B : Option Addr) (c c' : Nat) (l l' : List Val) (h : Vals w A l.length c (fun j => l.getD j z0)) (h' : Vals w B l'.length c' (fun j => l'.getD j z0)) :
    Calls Tryd.prog 33 #[.agg #[.int .i64 K, .slice A l.length c], .agg #[.int .i64 K', .slice B l'.length c']] w fun e w' => e = .returned (.bool (decide (K = K') && decide (l = l'))) ∧ Keep [] w w' := by
  have ka1 : Keep [] w (w.alloc (.cells #[.int .i64 K, .slice A l.length c] 33)) := Keep.alloc _ _
  have hb1 := Blk.new w 33 #[.int .i64 K, .slice A l.length c]
  obtain ⟨w1, hw1⟩ : ∃ w1, w1 = w.alloc (.cells #[.int .i64 K, .slice A l.length c] 33) := ⟨_, rfl⟩
  have hz1 : w1.heap.size = w.heap.size + 1 := by rw [hw1]; simp
  rw [← hw1] at ka1 hb1
  have ka2 : Keep [] w1 (w1.alloc (.cells #[.int .i64 K', .slice B l'.length c'] 33)) := Keep.alloc _ _
  have hb2 := Blk.new w1 33 #[.int .i64 K', .slice B l'.length c']
  obtain ⟨w2, hw2⟩ : ∃ w2, w2 = w1.alloc (.cells #[.int .i64 K', .slice B l'.length c'] 33) := ⟨_, rfl⟩
  rw [← hw2] at ka2 hb2
  rw [hz1] at hb2
  have hb1 := hb1.keep ka2 (by simp)
  have heq := equal_vals w2 A B c c' l l' (h.keep (ka1.trans ka2)) (h'.keep (ka1.trans ka2))
  obtain ⟨b, hb⟩ : ∃ b, decide (l = l') = b := ⟨_, rfl⟩
  rw [hb] at heq ⊢
  have x0 := (hb1.cell 0).trans (show _ = some (Value.int .i64 K) from rfl)
  have x1 := (hb1.cell 1).trans (show _ = some (Value.slice A l.length c) from rfl)
  have y0 := (hb2.cell 0).trans (show _ = some (Value.int .i64 K') from rfl)
  have y1 := (hb2.cell 1).trans (show _ = some (Value.slice B l'.length c') from rfl)
  have HK := Lib.hid (ka1.trans ka2)
  have HW := Lib.hid (show w2 = (w.alloc (.cells #[.int .i64 K, .slice A l.length c] 33)).alloc (.cells #[.int .i64 K', .slice B l'.length c'] 33) by rw [hw2, hw1])
  clear h h' hb hw1 hw2 hz1 ka1 ka2 hb1 hb2
  by_cases hK : K = K'
  · subst hK
    have t1 : (K == K) = true := by simp
    have HD := Lib.hid (show (decide (K = K) && b) = b by simp)
    rw [HD.out]
    go_enter Tryd.func33, Tryd.ntmps33
    go_upto_region 1 with fail
    rw [← HW.out]
    go_wp2_with fail
    (with_reducible refine heq.mono ?_)
    rintro e w3 ⟨rfl, k3⟩
    have HK3 := Lib.hid (HK.out.trans k3)
    clear k3 heq x0 x1 y0 y1
    go_wp2
    go_ret
    exact ⟨rfl, HK3.out⟩
  · have t1 : (K == K') = false := by simpa using hK
    have HD := Lib.hid (show (decide (K = K') && b) = false by simp [hK])
    rw [HD.out]
    clear heq
    go_enter Tryd.func33, Tryd.ntmps33
    go_upto_region 1 with fail
    rw [← HW.out]
    go_wp2
    go_ret
    exact ⟨rfl, HK.out⟩

/-- What a named function is as a value. -/
def SameNs (L L' : List Nod) : Prop := L = L'
noncomputable instance (L L' : List Nod) : Decidable (SameNs L L') := Classical.propDecidable _

theorem nod_eta (x : Nod) : x = ⟨x.K, x.fs⟩ := by cases x; rfl

set_option maxHeartbeats 1000000 in
theorem equalFunc_any (w : World) (A B : Option Addr) (c c' : Nat) (L L' : List Nod) (h : NodL w A c L) (h' : NodL w B c' L') :
    Calls Tryd.prog 32 #[.slice A L.length c, .slice B L'.length c', .func (.func 33) #[] #[]] w fun e w' => e = .returned (.bool (decide (SameNs L L'))) ∧ Keep [] w w' := by
  obtain ⟨b, hb⟩ : ∃ b, decide (SameNs L L') = b := ⟨_, rfl⟩
  rw [hb]
  have HNo := Lib.hid (show ¬ L = L' → b = false from fun e => by rw [← hb]; exact decide_eq_false e)
  have HYe := Lib.hid (show L = L' → b = true from fun e => by rw [← hb]; exact decide_eq_true e)
  clear hb
  obtain ⟨n, hn⟩ : ∃ n, L.length = n := ⟨_, rfl⟩
  obtain ⟨n', hn'⟩ : ∃ n', L'.length = n' := ⟨_, rfl⟩
  have hc := h.nc
  have hm := h.cap
  have hc' := h'.nc
  have hm' := h'.cap
  rw [hn] at hc ⊢
  rw [hn'] at hc' ⊢
  by_cases hne : n = n'
  case neg =>
    have t1 : ((n : Int) == n') = false := by simp; omega
    have t2 : ((n : Int) != n') = true := by simp; omega
    have HD := Lib.hid (HNo.out (fun e => hne (by rw [← hn, ← hn', e])))
    clear h h' hn hn'
    go_enter Tryd.func32, Tryd.ntmps32
    go_wp2
    go_ret
    exact ⟨by rw [HD.out]; rfl, Keep.refl _ _⟩
  subst hne
  have HA := Lib.hid (And.intro h hn)
  have HB := Lib.hid (And.intro h' hn')
  have t1 : ((n : Int) == n) = true := by simp
  have t2 : ((n : Int) != n) = false := by simp
  clear h h' hn hn'
  go_enter Tryd.func32, Tryd.ntmps32
  go_wp2
  go_loopw [17] (fun x wr => ∃ j : Nat, j ≤ n ∧ x = .int .i64 j ∧ (∀ i, i < j → L.getD i nod0 = L'.getD i nod0) ∧ Keep [] w wr) (fun x _ => n - (RowKit.intOf x).toNat)
  case atStart => exact ⟨0, by omega, rfl, fun i hi => by omega, Keep.refl _ _⟩
  case round =>
  obtain ⟨j, hj, rfl, hok, hK⟩ := hrel
  by_cases hlt : j < n
  case neg =>
    obtain rfl : j = n := by omega
    have HD := Lib.hid (And.intro (HYe.out (by
      apply List.ext_getElem (by rw [HA.out.2, HB.out.2])
      intro i h1 h2
      have := hok i (by rw [← HA.out.2]; exact h1)
      rw [List.getD_eq_getElem?_getD, List.getD_eq_getElem?_getD, List.getElem?_eq_getElem h1, List.getElem?_eq_getElem h2] at this
      exact this)) hK)
    clear hok hK
    go_wp2
    go_ret
    exact ⟨by rw [HD.out.1]; rfl, HD.out.2⟩
  obtain ⟨ba, oa, rfl, _, hcA⟩ := (HA.out.1.keep hK).cells (by rw [HA.out.2]; omega)
  obtain ⟨bb, ob, rfl, hbb, hcB⟩ := (HB.out.1.keep hK).cells (by rw [HB.out.2]; omega)
  obtain ⟨Ax, cx, a0, a1, hva⟩ := hcA j (by rw [HA.out.2]; exact hlt)
  obtain ⟨Ay, cy, b0, b1, hvb⟩ := hcB j (by rw [HB.out.2]; exact hlt)
  have hst : ¬ L.getD j nod0 = L'.getD j nod0 → b = false := fun e => HNo.out (fun e2 => e (by rw [e2]))
  have hgo : L.getD j nod0 = L'.getD j nod0 → ∀ i, i < j + 1 → L.getD i nod0 = L'.getD i nod0 := fun e i hi => by
    rcases Nat.lt_or_ge i j with h | h
    · exact hok i h
    · rw [show i = j by omega]; exact e
  generalize L.getD j nod0 = x at *
  generalize L'.getD j nod0 = y at *
  obtain ⟨xK, xf⟩ := x
  obtain ⟨yK, yf⟩ := y
  dsimp only at a0 a1 b0 b1 hva hvb
  have k1 : Keep [] wr (wr.alloc (.cells #[.int .i64 xK, .slice Ax xf.length cx] 33)) := Keep.alloc _ _
  have hb1 := Blk.new wr 33 #[.int .i64 xK, .slice Ax xf.length cx]
  obtain ⟨w1, hw1⟩ : ∃ w1, w1 = wr.alloc (.cells #[.int .i64 xK, .slice Ax xf.length cx] 33) := ⟨_, rfl⟩
  have hz1 : w1.heap.size = wr.heap.size + 1 := by rw [hw1]; simp
  rw [← hw1] at k1 hb1
  have k2 : Keep [] w1 (w1.alloc (.cells #[.int .i64 yK, .slice Ay yf.length cy] 33)) := Keep.alloc _ _
  have hb2 := Blk.new w1 33 #[.int .i64 yK, .slice Ay yf.length cy]
  obtain ⟨w2, hw2⟩ : ∃ w2, w2 = w1.alloc (.cells #[.int .i64 yK, .slice Ay yf.length cy] 33) := ⟨_, rfl⟩
  rw [← hw2] at k2 hb2
  rw [hz1] at hb2
  have hb1 := hb1.keep k2 (by simp)
  have hsn := sameNode_any w2 xK yK Ax Ay cx cy xf yf (hva.keep (k1.trans k2)) (hvb.keep (k1.trans k2))
  have x0 := (hb1.cell 0).trans (show _ = some (Value.int .i64 xK) from rfl)
  have x1 := (hb1.cell 1).trans (show _ = some (Value.slice Ax xf.length cx) from rfl)
  have y0 := (hb2.cell 0).trans (show _ = some (Value.int .i64 yK) from rfl)
  have y1 := (hb2.cell 1).trans (show _ = some (Value.slice Ay yf.length cy) from rfl)
  have d0 := (k1.cell (p := ⟨bb, ob + j * 2, none⟩) hbb (by simp)).trans b0
  have d1 := (k1.cell (p := ⟨bb, ob + j * 2 + 1, none⟩) hbb (by simp)).trans b1
  have HO := Lib.hid (And.intro hst (And.intro hgo (hK.trans (k1.trans k2))))
  have HW2 := Lib.hid (show w2 = (wr.alloc (.cells #[.int .i64 xK, .slice Ax xf.length cx] 33)).alloc (.cells #[.int .i64 yK, .slice Ay yf.length cy] 33) by rw [hw2, hw1])
  rw [hw1] at d0 d1
  clear hcA hcB hva hvb hst hgo hok hK hw1 hw2 hz1 k1 k2 hb1 hb2
  obtain ⟨p, hp⟩ : ∃ p, (decide (xK = yK) && decide (xf = yf)) = p := ⟨_, rfl⟩
  rw [hp] at hsn
  have HP := Lib.hid hp
  clear hp
  cases p with
  | true =>
    have HE := Lib.hid (HO.out.2.1 (by have := HP.out; simp at this; rw [this.1, this.2]))
    go_upto_region 7 with fail
    rw [← HW2.out]
    go_wp2_with fail
    (with_reducible refine hsn.mono ?_)
    rintro e w3 ⟨rfl, k3⟩
    have HK := Lib.hid (HO.out.2.2.trans k3)
    clear k3 hsn x0 x1 y0 y1 d0 d1 a0 a1 b0 b1
    go_wp2
    go_roundw
    case rel => exact ⟨j + 1, by omega, by go_num, HE.out, HK.out⟩
    case measure => simp [RowKit.intOf]; omega
  | false =>
    have HE := Lib.hid (HO.out.1 (by
      intro e
      have := HP.out
      simp only [Nod.mk.injEq] at e
      rw [e.1, e.2] at this
      simp at this))
    go_upto_region 7 with fail
    rw [← HW2.out]
    go_wp2_with fail
    (with_reducible refine hsn.mono ?_)
    rintro e w3 ⟨rfl, k3⟩
    have HK := Lib.hid (HO.out.2.2.trans k3)
    clear k3 hsn x0 x1 y0 y1 d0 d1 a0 a1 b0 b1
    go_wp2
    go_ret
    exact ⟨by rw [HE.out]; rfl, HK.out⟩
end Go.Proofs.YtigclopkoolocaaDoor
