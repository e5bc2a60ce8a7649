/-
  The document's twin of package graph: Reach, place; SameBools, SameInts; scullionlaw12.light. No conditions but what is in memory.
-/
import Derived.Test.YtigclopkoolocaaDoorGr3
namespace Go.Flo
open Go.RowKit Go.Bit

/-- A list of bools in memory. -/
structure BoolL (w : World) (A : Option Addr) (c : Nat) (l : List Bool) : Prop where
  nc : l.length ≤ c
  cap : c ≤ 9223372036854775807
  cells : 0 < l.length → ∃ b o, A = some ⟨b, o, none⟩ ∧ b < w.heap.size ∧ ∀ j, j < l.length → w.cell? ⟨b, o + j, none⟩ = some (.bool (l.getD j false))
theorem BoolL.keep {w w' : World} {A : Option Addr} {c : Nat} {l : List Bool} (h : BoolL w A c l) (hk : Keep [] w w') : BoolL w' A c l :=
  ⟨h.nc, h.cap, fun h0 => by
    obtain ⟨b, o, h1, h3, h4⟩ := h.cells h0
    exact ⟨b, o, h1, Nat.lt_of_lt_of_le h3 hk.size, fun j hj => (hk.cell (p := ⟨b, _, none⟩) h3 (by simp)).trans (h4 j hj)⟩⟩

def BolPost (l : List Bool) (w : World) (e : Ending) (w' : World) : Prop := ∃ A c, e = .returned (.slice A l.length c) ∧ BoolL w' A c l ∧ Keep [] w w'

/-- What Reach answers. -/
def reachB (g : Gr) (l : List Int) : List Bool := if MayG g then (List.range g.n).map (fun i => decide (i ∈ orderG g l)) else []

theorem Row.not_int {w : World} {tb : TypeId} {s n : Nat} {f : Nat → Bool} (h : Row w tb s n n (fun i => .bool (f i))) {b o : Nat} {k : IntKind} {x : Int} (hc : w.cell? ⟨b, o, none⟩ = some (.int k x)) : b ≠ s := by
  intro e
  subst e
  obtain ⟨c, h1, h2, _, _, h5⟩ := h
  rw [cell_of_row w b o c tb (0, 0) h1] at hc
  have ho : o < n := by
    have := (Array.getElem?_eq_some_iff.1 hc).1
    omega
  rw [h5 o ho] at hc
  cases hc

def SameIL (a b : List Int) : Prop := a = b

/-- Few nodes of few fields, few roots. -/
def Light12 (g : Gr) : Prop := g.n ≤ 60 ∧ g.roots.length ≤ 40 ∧ g.weaks.length ≤ 40 ∧ ∀ i, i < g.n → (g.at i).fs.length ≤ 30
instance (g : Gr) : Decidable (Light12 g) := by unfold Light12; infer_instance
end Go.Flo
namespace Go.Proofs.YtigclopkoolocaaDoor
open Go.RowKit Go.Flo Go.Bit
set_option maxRecDepth 100000

theorem rplace_neg (A : Option Addr) (n c : Nat) (i : Int) (h : i < 0) (w : World) : Calls Tryd.prog 25 #[.slice A n c, .int .i64 i] w fun e w' => e = .returned (.int .i64 (-1)) ∧ w = w' := by
  go_enter Tryd.func25, Tryd.ntmps25
  go_wp2
  go_ret
  exact ⟨rfl, rfl⟩

theorem rplace_at (b o n c i : Nat) (x : Int) (hi : i < n) (w : World) (h : w.cell? ⟨b, o + i, none⟩ = some (.int .i64 x)) : Calls Tryd.prog 25 #[.slice (some ⟨b, o, none⟩) n c, .int .i64 i] w fun e w' => e = .returned (.int .i64 x) ∧ w = w' := by
  have hi' : (i : Int) < n := by omega
  go_enter Tryd.func25, Tryd.ntmps25
  go_wp2
  go_ret
  exact ⟨rfl, rfl⟩

set_option maxHeartbeats 1000000 in
theorem rsame_ints (w : World) (A B : Option Addr) (c c' : Nat) (l l' : List Int) (h : IntL w A c l) (h' : IntL w B c' l') :
    Calls Tryd.prog 18 #[.slice A l.length c, .slice B l'.length c'] w fun e w' => e = .returned (.bool (decide (l = l'))) ∧ Keep [] w w' := by
  obtain ⟨n, hn⟩ : ∃ n, l.length = n := ⟨_, rfl⟩
  obtain ⟨n', hn'⟩ : ∃ n', l'.length = n' := ⟨_, rfl⟩
  have hc := h.nc
  have hm := h.cap
  have hc' := h'.nc
  have hm' := h'.cap
  rw [hn] at hc ⊢
  rw [hn'] at hc' ⊢
  by_cases hne : n = n'
  case neg =>
    have t1 : ((n : Int) == n') = false := by simp; omega
    have t2 : ((n : Int) != n') = true := by simp; omega
    have HD := Lib.hid (show decide (l = l') = false from decide_eq_false (fun e => hne (by rw [← hn, ← hn', e])))
    clear h h' hn hn'
    go_enter Tryd.func18, Tryd.ntmps18
    go_wp2
    go_ret
    exact ⟨by rw [HD.out]; rfl, Keep.refl _ _⟩
  subst hne
  have HA := Lib.hid (And.intro h hn)
  have HB := Lib.hid (And.intro h' hn')
  have t1 : ((n : Int) == n) = true := by simp
  have t2 : ((n : Int) != n) = false := by simp
  clear h h' hn hn'
  go_enter Tryd.func18, Tryd.ntmps18
  go_wp2
  go_loopw [13] (fun x wr => ∃ j : Nat, j ≤ n ∧ x = .int .i64 j ∧ (∀ i, i < j → l.getD i 0 = l'.getD i 0) ∧ Dr w wr) (fun x _ => n - (RowKit.intOf x).toNat)
  case atStart => exact ⟨0, by omega, rfl, fun i hi => by omega, Dr.refl _⟩
  case round =>
  obtain ⟨j, hj, rfl, hok, ⟨md, rfl⟩⟩ := hrel
  have HO := Lib.hid hok
  clear hok
  by_cases hlt : j < n
  case neg =>
    obtain rfl : j = n := by omega
    have HD := Lib.hid (show decide (l = l') = true from decide_eq_true (by
      apply List.ext_getElem (by rw [HA.out.2, HB.out.2])
      intro i h1 h2
      have := HO.out i (by rw [← HA.out.2]; exact h1)
      rw [List.getD_eq_getElem?_getD, List.getD_eq_getElem?_getD, List.getElem?_eq_getElem h1, List.getElem?_eq_getElem h2] at this
      exact this))
    go_wp2
    go_ret
    exact ⟨by rw [HD.out]; rfl, Keep.dr (Dr.drewN _ _)⟩
  obtain ⟨b, o, rfl, _, hcA⟩ := HA.out.1.cells (by rw [HA.out.2]; omega)
  obtain ⟨b', o', rfl, _, hcB⟩ := HB.out.1.cells (by rw [HB.out.2]; omega)
  have ca := hcA j (by rw [HA.out.2]; exact hlt)
  have cb := hcB j (by rw [HB.out.2]; exact hlt)
  have hst : l.getD j 0 ≠ l'.getD j 0 → decide (l = l') = false := fun e => decide_eq_false (fun e2 => e (by rw [e2]))
  have hgo : l.getD j 0 = l'.getD j 0 → ∀ i, i < j + 1 → l.getD i 0 = l'.getD i 0 := fun e i hi => by
    rcases Nat.lt_or_ge i j with h | h
    · exact HO.out i h
    · rw [show i = j by omega]; exact e
  have HS := Lib.hid (And.intro hst hgo)
  clear hst hgo hcA hcB
  generalize l.getD j 0 = x at *
  generalize l'.getD j 0 = y at *
  by_cases hxy : x = y
  · subst hxy
    have e1 : (x == x) = true := by simp
    have e2 : (x != x) = false := by simp
    have HD := Lib.hid (HS.out.2 rfl)
    go_wp2
    go_quiet (fail)
    go_wp2
    go_roundw
    case rel => exact ⟨j + 1, by omega, by go_num, HD.out, Dr.drewN _ _⟩
    case measure => simp [RowKit.intOf]; omega
  · have e1 : (x == y) = false := by simpa using hxy
    have e2 : (x != y) = true := by simpa using hxy
    have HD := Lib.hid (HS.out.1 hxy)
    go_wp2
    go_quiet (fail)
    go_wp2
    go_ret
    exact ⟨by rw [HD.out]; rfl, Keep.dr ((Dr.drewN w md).trans (Dr.drewN _ _))⟩

set_option maxHeartbeats 1000000 in
theorem light12_any (w : World) (A0 A1 A2 : Option Addr) (c0 c1 c2 : Nat) (g : Gr) (h : GIn w A0 A1 A2 c0 c1 c2 g) :
    Calls Tryd.prog 6 #[.agg #[.slice A0 g.nodes.length c0, .slice A1 g.roots.length c1, .slice A2 g.weaks.length c2]] w fun e w' => e = .returned (.bool (decide (Light12 g))) ∧ Keep [] w w' := by
  obtain ⟨n, hn⟩ : ∃ n, g.nodes.length = n := ⟨_, rfl⟩
  obtain ⟨n1, hn1⟩ : ∃ n1, g.roots.length = n1 := ⟨_, rfl⟩
  obtain ⟨n2, hn2⟩ : ∃ n2, g.weaks.length = n2 := ⟨_, rfl⟩
  have hnc := h.nodes.nc
  have hncm := h.nodes.cap
  have h1c := h.roots.nc
  have h1m := h.roots.cap
  have h2c := h.weaks.nc
  have h2m := h.weaks.cap
  rw [hn] at hnc ⊢
  rw [hn1] at h1c ⊢
  rw [hn2] at h2c ⊢
  have ka : Keep [] w (w.alloc (.cells #[.slice A0 n c0, .slice A1 n1 c1, .slice A2 n2 c2] 25)) := Keep.alloc _ _
  have HG := Lib.hid (And.intro h.nodes hn)
  have HD := Lib.hid (show ∀ b, (decide (Light12 g) = b) → decide (Light12 g) = b from fun b e => e)
  have hl : Light12 g ↔ n ≤ 60 ∧ n1 ≤ 40 ∧ n2 ≤ 40 ∧ ∀ i, i < n → (g.at i).fs.length ≤ 30 := by
    unfold Light12 Gr.n
    rw [hn, hn1, hn2]
  have HL := Lib.hid hl
  clear h hn hn1 hn2 hl
  by_cases a1 : 60 < n
  · have a1' : (60 : Int) < n := by omega
    have HE := Lib.hid (show decide (Light12 g) = false from decide_eq_false (fun e => by have := (HL.out.1 e).1; omega))
    go_enter Tryd.func6, Tryd.ntmps6
    go_wp2
    go_ret
    exact ⟨by rw [HE.out]; rfl, ka⟩
  have a1' : ¬ (60 : Int) < n := by omega
  by_cases a2 : 40 < n1
  · have a2' : (40 : Int) < n1 := by omega
    have HE := Lib.hid (show decide (Light12 g) = false from decide_eq_false (fun e => by have := (HL.out.1 e).2.1; omega))
    go_enter Tryd.func6, Tryd.ntmps6
    go_wp2
    go_ret
    exact ⟨by rw [HE.out]; rfl, ka⟩
  have a2' : ¬ (40 : Int) < n1 := by omega
  by_cases a3 : 40 < n2
  · have a3' : (40 : Int) < n2 := by omega
    have HE := Lib.hid (show decide (Light12 g) = false from decide_eq_false (fun e => by have := (HL.out.1 e).2.2.1; omega))
    go_enter Tryd.func6, Tryd.ntmps6
    go_wp2
    go_ret
    exact ⟨by rw [HE.out]; rfl, ka⟩
  have a3' : ¬ (40 : Int) < n2 := by omega
  have b1 : decide (60 < n) = false := by simpa using a1
  have b2 : decide (40 < n1) = false := by simpa using a2
  have b3 : decide (40 < n2) = false := by simpa using a3
  obtain ⟨w1, hw1⟩ : ∃ w1, w1 = w.alloc (.cells #[.slice A0 n c0, .slice A1 n1 c1, .slice A2 n2 c2] 25) := ⟨_, rfl⟩
  rw [← hw1] at ka
  have HKA := Lib.hid ka
  have HW1 := Lib.hid hw1
  clear ka hw1
  go_enter Tryd.func6, Tryd.ntmps6
  go_wp2
  rw [← HW1.out]
  go_loopw [24] (fun x wr => ∃ k : Nat, k ≤ n ∧ x = .int .i64 k ∧ (∀ i, i < k → (g.at i).fs.length ≤ 30) ∧ Keep [] w1 wr) (fun x _ => n - (RowKit.intOf x).toNat)
  case atStart => exact ⟨0, by omega, rfl, fun i hi => by omega, Keep.refl _ _⟩
  case round =>
  obtain ⟨k, hk, rfl, hok, hK⟩ := hrel
  have HO := Lib.hid (And.intro hok hK)
  by_cases hkt : k < n
  case neg =>
    obtain rfl : k = n := by omega
    have HE := Lib.hid (show decide (Light12 g) = true from decide_eq_true (HL.out.2 ⟨by omega, by omega, by omega, hok⟩))
    clear hok hK
    go_wp2
    go_ret
    exact ⟨by rw [HE.out]; rfl, HKA.out.trans HO.out.2⟩
  obtain ⟨bN, oN, rfl, hbN, hcN⟩ := (HG.out.1.keep (HKA.out.trans hK)).cells (by rw [HG.out.2]; omega)
  obtain ⟨AF, cF, e0, e1, hvF⟩ := hcN k (by rw [HG.out.2]; exact hkt)
  have hfs : (g.nodes.getD k nod0) = g.at k := rfl
  rw [hfs] at e0 e1
  have hst : 30 < (g.at k).fs.length → decide (Light12 g) = false := fun e => decide_eq_false (fun e2 => by have := (HL.out.1 e2).2.2.2 k hkt; omega)
  have hgo : ¬ 30 < (g.at k).fs.length → ∀ i, i < k + 1 → (g.at i).fs.length ≤ 30 := fun e i hi => by
    rcases Nat.lt_or_ge i k with h | h
    · exact hok i h
    · rw [show i = k by omega]; omega
  have HS := Lib.hid (And.intro hst hgo)
  clear hcN hfs hvF hst hgo hok hK
  generalize (g.at k).fs.length = mF at *
  generalize (g.at k).K = NK at *
  have ka : Keep [] wr (wr.alloc (.cells #[.int .i64 NK, .slice AF mF cF] 33)) := Keep.alloc _ _
  have HK := Lib.hid (HO.out.2.trans ka)
  clear ka
  by_cases h30 : 30 < mF
  · have h30' : (30 : Int) < mF := by omega
    have HE := Lib.hid (HS.out.1 h30)
    go_wp2
    go_ret
    exact ⟨by rw [HE.out]; rfl, HKA.out.trans HK.out⟩
  · have h30' : ¬ (30 : Int) < mF := by omega
    have HE := Lib.hid (HS.out.2 h30)
    go_wp2
    go_roundw
    case rel => exact ⟨k + 1, by omega, by go_num, HE.out, HK.out⟩
    case measure => simp [RowKit.intOf]; omega
end Go.Proofs.YtigclopkoolocaaDoor
