/-
  The program's package graph: slices.Equal of numbers, of values; nodes the same; Alike. No conditions but what is in memory.
-/
import Derived.Test.YtigclopkoolocaaDoorGd8
import Derived.Test.YtigclopkoolocaaDoorGr6
import Derived.BigQuiet
import Derived.Laws.StructEq
namespace Go.Proofs.YtigclopkoolocaaDoor
open Go.RowKit Go.Flo Go.Bit
set_option maxRecDepth 100000

set_option maxHeartbeats 1000000 in
theorem equal_ints (w : World) (A B : Option Addr) (c c' : Nat) (l l' : List Int) (h : IntL w A c l) (h' : IntL w B c' l') :
    Calls Tryd.prog 34 #[.slice A l.length c, .slice B l'.length c'] w fun e w' => e = .returned (.bool (decide (l = l'))) ∧ Keep [] w w' := by
  obtain ⟨n, hn⟩ : ∃ n, l.length = n := ⟨_, rfl⟩
  obtain ⟨n', hn'⟩ : ∃ n', l'.length = n' := ⟨_, rfl⟩
  have hc := h.nc
  have hm := h.cap
  have hc' := h'.nc
  have hm' := h'.cap
  rw [hn] at hc ⊢
  rw [hn'] at hc' ⊢
  by_cases hne : n = n'
  case neg =>
    have t1 : ((n : Int) == n') = false := by simp; omega
    have t2 : ((n : Int) != n') = true := by simp; omega
    have HD := Lib.hid (show decide (l = l') = false from decide_eq_false (fun e => hne (by rw [← hn, ← hn', e])))
    clear h h' hn hn'
    go_enter Tryd.func34, Tryd.ntmps34
    go_wp2
    go_ret
    exact ⟨by rw [HD.out]; rfl, Keep.refl _ _⟩
  subst hne
  have HA := Lib.hid (And.intro h hn)
  have HB := Lib.hid (And.intro h' hn')
  have t1 : ((n : Int) == n) = true := by simp
  have t2 : ((n : Int) != n) = false := by simp
  clear h h' hn hn'
  go_enter Tryd.func34, Tryd.ntmps34
  go_wp2
  go_loopw [13] (fun x wr => ∃ j : Nat, j ≤ n ∧ x = .int .i64 j ∧ (∀ i, i < j → l.getD i 0 = l'.getD i 0) ∧ Dr w wr) (fun x _ => n - (RowKit.intOf x).toNat)
  case atStart => exact ⟨0, by omega, rfl, fun i hi => by omega, Dr.refl _⟩
  case round =>
  obtain ⟨j, hj, rfl, hok, ⟨md, rfl⟩⟩ := hrel
  have HO := Lib.hid hok
  clear hok
  by_cases hlt : j < n
  case neg =>
    obtain rfl : j = n := by omega
    have HD := Lib.hid (show decide (l = l') = true from decide_eq_true (by
      apply List.ext_getElem (by rw [HA.out.2, HB.out.2])
      intro i h1 h2
      have := HO.out i (by rw [← HA.out.2]; exact h1)
      rw [List.getD_eq_getElem?_getD, List.getD_eq_getElem?_getD, List.getElem?_eq_getElem h1, List.getElem?_eq_getElem h2] at this
      exact this))
    go_wp2
    go_ret
    exact ⟨by rw [HD.out]; rfl, Keep.dr (Dr.drewN _ _)⟩
  obtain ⟨b, o, rfl, _, hcA⟩ := HA.out.1.cells (by rw [HA.out.2]; omega)
  obtain ⟨b', o', rfl, _, hcB⟩ := HB.out.1.cells (by rw [HB.out.2]; omega)
  have ca := hcA j (by rw [HA.out.2]; exact hlt)
  have cb := hcB j (by rw [HB.out.2]; exact hlt)
  have hst : l.getD j 0 ≠ l'.getD j 0 → decide (l = l') = false := fun e => decide_eq_false (fun e2 => e (by rw [e2]))
  have hgo : l.getD j 0 = l'.getD j 0 → ∀ i, i < j + 1 → l.getD i 0 = l'.getD i 0 := fun e i hi => by
    rcases Nat.lt_or_ge i j with h | h
    · exact HO.out i h
    · rw [show i = j by omega]; exact e
  have HS := Lib.hid (And.intro hst hgo)
  clear hst hgo hcA hcB
  generalize l.getD j 0 = x at *
  generalize l'.getD j 0 = y at *
  by_cases hxy : x = y
  · subst hxy
    have e1 : (x == x) = true := by simp
    have e2 : (x != x) = false := by simp
    have HD := Lib.hid (HS.out.2 rfl)
    go_wp2
    go_quiet (fail)
    go_wp2
    go_roundw
    case rel => exact ⟨j + 1, by omega, by go_num, HD.out, Dr.drewN _ _⟩
    case measure => simp [RowKit.intOf]; omega
  · have e1 : (x == y) = false := by simpa using hxy
    have e2 : (x != y) = true := by simpa using hxy
    have HD := Lib.hid (HS.out.1 hxy)
    go_wp2
    go_quiet (fail)
    go_wp2
    go_ret
    exact ⟨by rw [HD.out]; rfl, Keep.dr ((Dr.drewN w md).trans (Dr.drewN _ _))⟩

noncomputable instance (l l' : List Val) : Decidable (l = l') := Classical.propDecidable _

theorem valGuard : Tryd.prog.eqGuardType Tryd.prog.depth 36 = false := by kernel_rfl

theorem valHeld : Tryd.prog.stoodInHeld 36 = false := by kernel_rfl

theorem valStruct : Tryd.prog.underlying 36 = some (.struct (Tryd.prog.fieldsOf 36)) := by kernel_rfl

theorem equal_val (x y : Val) (W : World) : (Op.equalIn 10000 36 (.agg #[.int .i64 x.K, .int .i64 x.n, .int .u64 x.p, .int .u64 x.q, .int .i64 x.r]) (.agg #[.int .i64 y.K, .int .i64 y.n, .int .u64 y.p, .int .u64 y.q, .int .i64 y.r])).run Tryd.prog W = .ok (x.K == y.K && (x.n == y.n && (x.p == y.p && (x.q == y.q && x.r == y.r)))) W := by
  have u3 := Tryd.underlying3
  have a3 := Tryd.isAgg3
  have z3 := Tryd.sizeOf3
  have u2 := Tryd.underlying2
  have a2 := Tryd.isAgg2
  have z2 := Tryd.sizeOf2
  have u4 := Tryd.underlying34
  have a4 := Tryd.isAgg34
  have z4 := Tryd.sizeOf34
  rw [show (10000 : Nat) = 9999 + 1 from rfl, run_equalIn_agg W 9999 36 _ _ valStruct valHeld]
  simp only [Program.fieldsOf, Tryd.underlying36]
  go_simp
  by_cases h1 : x.K = y.K <;> by_cases h2 : x.n = y.n <;> by_cases h3 : x.p = y.p <;> by_cases h4 : x.q = y.q <;> by_cases h5 : x.r = y.r <;> simp [h1, h2, h3, h4, h5]

set_option maxHeartbeats 1000000 in
theorem equal_vals (w : World) (A B : Option Addr) (c c' : Nat) (l l' : List Val) (h : Vals w A l.length c (fun j => l.getD j z0)) (h' : Vals w B l'.length c' (fun j => l'.getD j z0)) :
    Calls Tryd.prog 49 #[.slice A l.length c, .slice B l'.length c'] w fun e w' => e = .returned (.bool (decide (l = l'))) ∧ Keep [] w w' := by
  obtain ⟨n, hn⟩ : ∃ n, l.length = n := ⟨_, rfl⟩
  obtain ⟨n', hn'⟩ : ∃ n', l'.length = n' := ⟨_, rfl⟩
  have hc := h.nc
  have hm := h.cap
  have hc' := h'.nc
  have hm' := h'.cap
  rw [hn] at hc h ⊢
  rw [hn'] at hc' h' ⊢
  by_cases hne : n = n'
  case neg =>
    have t1 : ((n : Int) == n') = false := by simp; omega
    have t2 : ((n : Int) != n') = true := by simp; omega
    have HD := Lib.hid (show decide (l = l') = false from decide_eq_false (fun e => hne (by rw [← hn, ← hn', e])))
    clear h h' hn hn'
    go_enter Tryd.func49, Tryd.ntmps49
    go_wp2
    go_ret
    exact ⟨by rw [HD.out]; rfl, Keep.refl _ _⟩
  subst hne
  have HA := Lib.hid (And.intro h hn)
  have HB := Lib.hid (And.intro h' hn')
  have t1 : ((n : Int) == n) = true := by simp
  have t2 : ((n : Int) != n) = false := by simp
  clear h h' hn hn'
  go_enter Tryd.func49, Tryd.ntmps49
  go_wp2
  go_loopw [13] (fun x wr => ∃ j : Nat, j ≤ n ∧ x = .int .i64 j ∧ (∀ i, i < j → l.getD i z0 = l'.getD i z0) ∧ Dr w wr) (fun x _ => n - (RowKit.intOf x).toNat)
  case atStart => exact ⟨0, by omega, rfl, fun i hi => by omega, Dr.refl _⟩
  case round =>
  obtain ⟨j, hj, rfl, hok, ⟨md, rfl⟩⟩ := hrel
  have HO := Lib.hid hok
  clear hok
  by_cases hlt : j < n
  case neg =>
    obtain rfl : j = n := by omega
    have HD := Lib.hid (show decide (l = l') = true from decide_eq_true (by
      apply List.ext_getElem (by rw [HA.out.2, HB.out.2])
      intro i h1 h2
      have := HO.out i (by rw [← HA.out.2]; exact h1)
      rw [List.getD_eq_getElem?_getD, List.getD_eq_getElem?_getD, List.getElem?_eq_getElem h1, List.getElem?_eq_getElem h2] at this
      exact this))
    go_wp2
    go_ret
    exact ⟨by rw [HD.out]; rfl, Keep.dr (Dr.drewN _ _)⟩
  obtain ⟨b, o, rfl, _, hcA⟩ := HA.out.1.cells (by omega)
  obtain ⟨b', o', rfl, _, hcB⟩ := HB.out.1.cells (by omega)
  obtain ⟨a0, a1, a2, a3, a4⟩ := hcA j hlt
  obtain ⟨b0, b1, b2, b3, b4⟩ := hcB j hlt
  have hst : l.getD j z0 ≠ l'.getD j z0 → decide (l = l') = false := fun e => decide_eq_false (fun e2 => e (by rw [e2]))
  have hgo : l.getD j z0 = l'.getD j z0 → ∀ i, i < j + 1 → l.getD i z0 = l'.getD i z0 := fun e i hi => by
    rcases Nat.lt_or_ge i j with h | h
    · exact HO.out i h
    · rw [show i = j by omega]; exact e
  have HS := Lib.hid (And.intro hst hgo)
  clear hst hgo hcA hcB
  generalize l.getD j z0 = x at *
  generalize l'.getD j z0 = y at *
  have heq := fun W => equal_val x y W
  have hguard : Tryd.prog.eqGuardType Tryd.prog.depth 36 = false := valGuard
  obtain ⟨x0, x1, x2, x3, x4⟩ := x
  obtain ⟨y0, y1, y2, y3, y4⟩ := y
  dsimp only at a0 a1 a2 a3 a4 b0 b1 b2 b3 b4 heq
  by_cases hxy : (⟨x0, x1, x2, x3, x4⟩ : Val) = ⟨y0, y1, y2, y3, y4⟩
  · have HD := Lib.hid (HS.out.2 hxy)
    simp only [Val.mk.injEq] at hxy
    obtain ⟨rfl, rfl, rfl, rfl, rfl⟩ := hxy
    simp only [beq_self_eq_true, Bool.and_self] at heq
    go_wp2
    go_quiet (fail)
    go_wp2
    go_roundw
    case rel => exact ⟨j + 1, by omega, by go_num, HD.out, Dr.drewN _ _⟩
    case measure => simp [RowKit.intOf]; omega
  · have HD := Lib.hid (HS.out.1 hxy)
    obtain ⟨bb, hbb⟩ : ∃ bb, (x0 == y0 && (x1 == y1 && (x2 == y2 && (x3 == y3 && x4 == y4)))) = bb := ⟨_, rfl⟩
    have hf : bb = false := by
      rw [← hbb, Bool.eq_false_iff]
      intro e
      simp only [Bool.and_eq_true, beq_iff_eq] at e
      exact hxy (by simp only [Val.mk.injEq]; exact e)
    subst hf
    rw [hbb] at heq
    clear hbb hxy
    go_wp2
    go_quiet (fail)
    go_wp2
    go_ret
    exact ⟨by rw [HD.out]; rfl, Keep.dr ((Dr.drewN w md).trans (Dr.drewN _ _))⟩

end Go.Proofs.YtigclopkoolocaaDoor
