/-
  The document's twin of package graph: Reach, place; SameBools, SameInts; scullionlaw12.light. No conditions but what is in memory.
-/
import Derived.Test.YtigclopkoolocaaGr3
namespace Go.Flo
open Go.RowKit Go.Bit

/-- A list of bools in memory. -/
structure BoolL (w : World) (A : Option Addr) (c : Nat) (l : List Bool) : Prop where
  nc : l.length ≤ c
  cap : c ≤ 9223372036854775807
  cells : 0 < l.length → ∃ b o, A = some ⟨b, o, none⟩ ∧ b < w.heap.size ∧ ∀ j, j < l.length → w.cell? ⟨b, o + j, none⟩ = some (.bool (l.getD j false))
theorem BoolL.keep {w w' : World} {A : Option Addr} {c : Nat} {l : List Bool} (h : BoolL w A c l) (hk : Keep [] w w') : BoolL w' A c l :=
  ⟨h.nc, h.cap, fun h0 => by
    obtain ⟨b, o, h1, h3, h4⟩ := h.cells h0
    exact ⟨b, o, h1, Nat.lt_of_lt_of_le h3 hk.size, fun j hj => (hk.cell (p := ⟨b, _, none⟩) h3 (by simp)).trans (h4 j hj)⟩⟩

def BolPost (l : List Bool) (w : World) (e : Ending) (w' : World) : Prop := ∃ A c, e = .returned (.slice A l.length c) ∧ BoolL w' A c l ∧ Keep [] w w'

/-- What Reach answers. -/
def reachB (g : Gr) (l : List Int) : List Bool := if MayG g then (List.range g.n).map (fun i => decide (i ∈ orderG g l)) else []

theorem Row.not_int {w : World} {tb : TypeId} {s n : Nat} {f : Nat → Bool} (h : Row w tb s n n (fun i => .bool (f i))) {b o : Nat} {k : IntKind} {x : Int} (hc : w.cell? ⟨b, o, none⟩ = some (.int k x)) : b ≠ s := by
  intro e
  subst e
  obtain ⟨c, h1, h2, _, _, h5⟩ := h
  rw [cell_of_row w b o c tb (0, 0) h1] at hc
  have ho : o < n := by
    have := (Array.getElem?_eq_some_iff.1 hc).1
    omega
  rw [h5 o ho] at hc
  cases hc

def SameIL (a b : List Int) : Prop := a = b

/-- Few nodes of few fields, few roots. -/
def Light12 (g : Gr) : Prop := g.n ≤ 60 ∧ g.roots.length ≤ 40 ∧ g.weaks.length ≤ 40 ∧ ∀ i, i < g.n → (g.at i).fs.length ≤ 30
instance (g : Gr) : Decidable (Light12 g) := by unfold Light12; infer_instance
end Go.Flo
namespace Go.Proofs.Ytigclopkoolocaa
open Go.RowKit Go.Flo Go.Bit
set_option maxRecDepth 100000

set_option maxHeartbeats 2000000 in
theorem rreach_any (w : World) (A0 A1 A2 Al : Option Addr) (c0 c1 c2 cl : Nat) (g : Gr) (l : List Int) (h : GIn w A0 A1 A2 c0 c1 c2 g) (hl : IntL w Al cl l) :
    Calls Try.prog 15 #[.agg #[.slice A0 g.nodes.length c0, .slice A1 g.roots.length c1, .slice A2 g.weaks.length c2], .slice Al l.length cl] w (BolPost (reachB g l) w) := by
  have ka : Keep [] w (w.alloc (.cells #[.slice A0 g.nodes.length c0, .slice A1 g.roots.length c1, .slice A2 g.weaks.length c2] 25)) := Keep.alloc _ _
  have hb := Blk.new w 25 #[.slice A0 g.nodes.length c0, .slice A1 g.roots.length c1, .slice A2 g.weaks.length c2]
  obtain ⟨w1, hw1⟩ : ∃ w1, w1 = w.alloc (.cells #[.slice A0 g.nodes.length c0, .slice A1 g.roots.length c1, .slice A2 g.weaks.length c2] 25) := ⟨_, rfl⟩
  rw [← hw1] at ka hb
  have hmay := rmayg_any w1 A0 A1 A2 c0 c1 c2 g (h.keep ka)
  have HB := Lib.hid hb
  have HKA := Lib.hid ka
  by_cases hM : MayG g
  case neg =>
    rw [show reachB g l = [] from if_neg hM]
    rw [decide_eq_false hM] at hmay
    clear h hl hM ka hb
    go_enter Try.func15, Try.ntmps15
    subst hw1
    go_wp2_with fail
    (with_reducible refine hmay.mono ?_)
    rintro e w2 ⟨rfl, k2⟩
    go_wp2
    go_ret
    exact ⟨none, 0, rfl, ⟨by simp, by omega, by simp⟩, HKA.out.trans k2⟩
  rw [decide_eq_true hM] at hmay
  have h4 := hM.1
  have hord := fun X (hk : Keep [] w X) => rorder_any X A0 A1 A2 Al c0 c1 c2 cl g l (h.keep hk) h4 (hl.keep hk)
  rw [show reachB g l = (List.range g.n).map (fun i => decide (i ∈ orderG g l)) from if_pos hM]
  have hf := orderG_fine g l
  obtain ⟨R, hR⟩ : ∃ R, orderG g l = R := ⟨_, rfl⟩
  rw [hR] at hord hf ⊢
  unfold OrdPost at hord
  rw [natI_len] at hord
  have hnn : g.nodes.length = g.n := rfl
  rw [hnn] at hmay hord HB hw1 ⊢
  generalize g.n = n at *
  generalize g.roots.length = n1 at *
  generalize g.weaks.length = n2 at *
  generalize l.length = q at *
  have HO := Lib.hid hord
  have HF := Lib.hid hf
  have hrl := hf.len
  clear h hl hM ka hb hord hf hR hnn
  go_enter Try.func15, Try.ntmps15
  subst hw1
  go_wp2_with fail
  (with_reducible refine hmay.mono ?_)
  rintro e w2 ⟨rfl, k2⟩
  have hs2 : w.heap.size ≤ w2.heap.size := (HKA.out.trans k2).size
  have hb2 := HB.out.keep k2 (by simp)
  have hmk := mk_bools n (by omega) w2
  have hrow := Row.made w2 4 (.bool false) rfl n (by unfold maxLen; omega)
  rw [Nat.mul_one, show (Value.bool false).cells = #[Value.bool false] from rfl] at hrow
  have k3 : Keep [] w2 (w2.alloc (.cells (madeCells #[Value.bool false] n) 4)) := Keep.alloc _ _
  obtain ⟨w3, hw3⟩ : ∃ w3, w3 = w2.alloc (.cells (madeCells #[Value.bool false] n) 4) := ⟨_, rfl⟩
  rw [← hw3] at k3 hrow hmk
  have hb3 := hb2.keep k3 (by simp)
  have x0 := (hb2.cell 0).trans (show _ = some (Value.slice A0 n c0) from rfl)
  have y0 := (hb3.cell 0).trans (show _ = some (Value.slice A0 n c0) from rfl)
  have y1 := (hb3.cell 1).trans (show _ = some (Value.slice A1 n1 c1) from rfl)
  have y2 := (hb3.cell 2).trans (show _ = some (Value.slice A2 n2 c2) from rfl)
  have hK3 := (HKA.out.trans k2).trans k3
  have hord := HO.out w3 hK3
  have HR3 := Lib.hid (And.intro hrow hK3)
  clear hmay k2 k3 hb2 hb3 hw3 hrow hK3
  go_wp2_with fail
  (with_reducible refine hord.mono ?_)
  rintro e w4 ⟨A, c, rfl, hil, k4⟩
  have HI := Lib.hid hil
  have HR4 := Lib.hid (And.intro (HR3.out.1.keep k4 (by simp)) (HR3.out.2.trans k4))
  have hrc := hil.nc
  have hrm := hil.cap
  rw [natI_len] at hrc
  have hs4 := (HR3.out.1.keep k4 (by simp)).lt
  clear hord hil k4 x0 y0 y1 y2 hmk
  go_wp2
  go_loopw [19] (fun x wr => ∃ j : Nat, j ≤ R.length ∧ x = .int .i64 j ∧ Row wr 4 w2.heap.size n n (fun i => .bool (decide (i ∈ R.take j))) ∧ Keep [w2.heap.size] w4 wr) (fun x _ => R.length - (RowKit.intOf x).toNat)
  case atStart => exact ⟨0, by omega, rfl, HR4.out.1.congr (fun i _ => by simp), Keep.refl _ _⟩
  case round =>
  obtain ⟨j, hj, rfl, hrow, hK⟩ := hrel
  by_cases hlt : j < R.length
  case neg =>
    obtain rfl : j = R.length := by omega
    rw [List.take_length] at hrow
    have HH := Lib.hid (And.intro hrow hK)
    clear hrow hK
    go_wp2
    go_ret
    refine ⟨some ⟨w2.heap.size, 0, none⟩, n, by simp, ⟨by simp, by omega, fun _ => ⟨w2.heap.size, 0, rfl, HH.out.1.lt, fun j hj => ?_⟩⟩, HR4.out.2.since HH.out.2 (by simpa using hs2)⟩
    have hj2 : j < n := by simpa using hj
    rw [Nat.zero_add, HH.out.1.cell hj2]
    simp [List.getD_eq_getElem?_getD, hj2]
  obtain ⟨bR, oR, rfl, hbR, hcR⟩ := HI.out.cells (by rw [natI_len]; omega)
  have cj0 := hcR j (by rw [natI_len]; exact hlt)
  have hne := HR4.out.1.not_int cj0
  have cj := (hK.cell (p := ⟨bR, oR + j, none⟩) hbR (by simpa using hne)).trans cj0
  rw [natI_get R hlt] at cj
  have hmem : R.getD j 0 ∈ R := getD_mem hlt
  have hin := HF.out.2 _ hmem
  have ht : R.take (j + 1) = R.take j ++ [R.getD j 0] := by
    rw [List.take_add_one, List.getD_eq_getElem?_getD, List.getElem?_eq_getElem hlt]
    rfl
  obtain ⟨i, hi⟩ : ∃ i, R.getD j 0 = i := ⟨_, rfl⟩
  rw [hi] at cj hin ht
  have fz := hrow.frozen i
  have ci := hrow.cell hin
  have hiI : (i : Int) < n := by omega
  have hrow2 : Row (wr.setCell ⟨w2.heap.size, i, none⟩ (.bool true)) 4 w2.heap.size n n (fun a => .bool (decide (a ∈ R.take (j + 1)))) := (hrow.set_ i (.bool true)).congr (fun a ha => by
    rw [ht]
    by_cases e : a = i
    · subst e; simp
    · rw [if_neg e]
      congr 1
      simp [e])
  have HH := Lib.hid (And.intro hrow2 (hK.trans (Keep.setCell (own := [w2.heap.size]) wr ⟨w2.heap.size, i, none⟩ (by simp) (.bool true))))
  clear hcR cj0 hne hmem ht hi hrow hK hrow2
  go_wp2
  go_roundw
  case rel => exact ⟨j + 1, by omega, by go_num, HH.out.1, HH.out.2⟩
  case measure => simp [RowKit.intOf]; omega

set_option maxHeartbeats 1000000 in
theorem rsame_bools (w : World) (A B : Option Addr) (c c' : Nat) (l l' : List Bool) (h : BoolL w A c l) (h' : BoolL w B c' l') :
    Calls Try.prog 13 #[.slice A l.length c, .slice B l'.length c'] w fun e w' => e = .returned (.bool (decide (l = l'))) ∧ Keep [] w w' := by
  obtain ⟨n, hn⟩ : ∃ n, l.length = n := ⟨_, rfl⟩
  obtain ⟨n', hn'⟩ : ∃ n', l'.length = n' := ⟨_, rfl⟩
  have hc := h.nc
  have hm := h.cap
  have hc' := h'.nc
  have hm' := h'.cap
  rw [hn] at hc ⊢
  rw [hn'] at hc' ⊢
  by_cases hne : n = n'
  case neg =>
    have t1 : ((n : Int) == n') = false := by simp; omega
    have t2 : ((n : Int) != n') = true := by simp; omega
    have HD := Lib.hid (show decide (l = l') = false from decide_eq_false (fun e => hne (by rw [← hn, ← hn', e])))
    clear h h' hn hn'
    go_enter Try.func13, Try.ntmps13
    go_wp2
    go_ret
    exact ⟨by rw [HD.out]; rfl, Keep.refl _ _⟩
  subst hne
  have HA := Lib.hid (And.intro h hn)
  have HB := Lib.hid (And.intro h' hn')
  have t1 : ((n : Int) == n) = true := by simp
  have t2 : ((n : Int) != n) = false := by simp
  clear h h' hn hn'
  go_enter Try.func13, Try.ntmps13
  go_wp2
  go_loopw [13] (fun x wr => ∃ j : Nat, j ≤ n ∧ x = .int .i64 j ∧ (∀ i, i < j → l.getD i false = l'.getD i false) ∧ Dr w wr) (fun x _ => n - (RowKit.intOf x).toNat)
  case atStart => exact ⟨0, by omega, rfl, fun i hi => by omega, Dr.refl _⟩
  case round =>
  obtain ⟨j, hj, rfl, hok, ⟨md, rfl⟩⟩ := hrel
  have HO := Lib.hid hok
  clear hok
  by_cases hlt : j < n
  case neg =>
    obtain rfl : j = n := by omega
    have HD := Lib.hid (show decide (l = l') = true from decide_eq_true (by
      apply List.ext_getElem (by rw [HA.out.2, HB.out.2])
      intro i h1 h2
      have := HO.out i (by rw [← HA.out.2]; exact h1)
      rw [List.getD_eq_getElem?_getD, List.getD_eq_getElem?_getD, List.getElem?_eq_getElem h1, List.getElem?_eq_getElem h2] at this
      exact this))
    go_wp2
    go_ret
    exact ⟨by rw [HD.out]; rfl, Keep.dr (Dr.drewN _ _)⟩
  obtain ⟨b, o, rfl, _, hcA⟩ := HA.out.1.cells (by rw [HA.out.2]; omega)
  obtain ⟨b', o', rfl, _, hcB⟩ := HB.out.1.cells (by rw [HB.out.2]; omega)
  have ca := hcA j (by rw [HA.out.2]; exact hlt)
  have cb := hcB j (by rw [HB.out.2]; exact hlt)
  have hst : l.getD j false ≠ l'.getD j false → decide (l = l') = false := fun e => decide_eq_false (fun e2 => e (by rw [e2]))
  have hgo : l.getD j false = l'.getD j false → ∀ i, i < j + 1 → l.getD i false = l'.getD i false := fun e i hi => by
    rcases Nat.lt_or_ge i j with h | h
    · exact HO.out i h
    · rw [show i = j by omega]; exact e
  have HS := Lib.hid (And.intro hst hgo)
  clear hst hgo hcA hcB
  generalize l.getD j false = x at *
  generalize l'.getD j false = y at *
  by_cases hxy : x = y
  · subst hxy
    have e1 : (x == x) = true := by simp
    have e2 : (x != x) = false := by simp
    have HD := Lib.hid (HS.out.2 rfl)
    go_wp2
    go_quiet (fail)
    go_wp2
    go_roundw
    case rel => exact ⟨j + 1, by omega, by go_num, HD.out, Dr.drewN _ _⟩
    case measure => simp [RowKit.intOf]; omega
  · have e1 : (x == y) = false := by simpa using hxy
    have e2 : (x != y) = true := by simpa using hxy
    have HD := Lib.hid (HS.out.1 hxy)
    go_wp2
    go_quiet (fail)
    go_wp2
    go_ret
    exact ⟨by rw [HD.out]; rfl, Keep.dr ((Dr.drewN w md).trans (Dr.drewN _ _))⟩

set_option maxHeartbeats 1000000 in
theorem rsame_ints (w : World) (A B : Option Addr) (c c' : Nat) (l l' : List Int) (h : IntL w A c l) (h' : IntL w B c' l') :
    Calls Try.prog 32 #[.slice A l.length c, .slice B l'.length c'] w fun e w' => e = .returned (.bool (decide (l = l'))) ∧ Keep [] w w' := by
  obtain ⟨n, hn⟩ : ∃ n, l.length = n := ⟨_, rfl⟩
  obtain ⟨n', hn'⟩ : ∃ n', l'.length = n' := ⟨_, rfl⟩
  have hc := h.nc
  have hm := h.cap
  have hc' := h'.nc
  have hm' := h'.cap
  rw [hn] at hc ⊢
  rw [hn'] at hc' ⊢
  by_cases hne : n = n'
  case neg =>
    have t1 : ((n : Int) == n') = false := by simp; omega
    have t2 : ((n : Int) != n') = true := by simp; omega
    have HD := Lib.hid (show decide (l = l') = false from decide_eq_false (fun e => hne (by rw [← hn, ← hn', e])))
    clear h h' hn hn'
    go_enter Try.func32, Try.ntmps32
    go_wp2
    go_ret
    exact ⟨by rw [HD.out]; rfl, Keep.refl _ _⟩
  subst hne
  have HA := Lib.hid (And.intro h hn)
  have HB := Lib.hid (And.intro h' hn')
  have t1 : ((n : Int) == n) = true := by simp
  have t2 : ((n : Int) != n) = false := by simp
  clear h h' hn hn'
  go_enter Try.func32, Try.ntmps32
  go_wp2
  go_loopw [13] (fun x wr => ∃ j : Nat, j ≤ n ∧ x = .int .i64 j ∧ (∀ i, i < j → l.getD i 0 = l'.getD i 0) ∧ Dr w wr) (fun x _ => n - (RowKit.intOf x).toNat)
  case atStart => exact ⟨0, by omega, rfl, fun i hi => by omega, Dr.refl _⟩
  case round =>
  obtain ⟨j, hj, rfl, hok, ⟨md, rfl⟩⟩ := hrel
  have HO := Lib.hid hok
  clear hok
  by_cases hlt : j < n
  case neg =>
    obtain rfl : j = n := by omega
    have HD := Lib.hid (show decide (l = l') = true from decide_eq_true (by
      apply List.ext_getElem (by rw [HA.out.2, HB.out.2])
      intro i h1 h2
      have := HO.out i (by rw [← HA.out.2]; exact h1)
      rw [List.getD_eq_getElem?_getD, List.getD_eq_getElem?_getD, List.getElem?_eq_getElem h1, List.getElem?_eq_getElem h2] at this
      exact this))
    go_wp2
    go_ret
    exact ⟨by rw [HD.out]; rfl, Keep.dr (Dr.drewN _ _)⟩
  obtain ⟨b, o, rfl, _, hcA⟩ := HA.out.1.cells (by rw [HA.out.2]; omega)
  obtain ⟨b', o', rfl, _, hcB⟩ := HB.out.1.cells (by rw [HB.out.2]; omega)
  have ca := hcA j (by rw [HA.out.2]; exact hlt)
  have cb := hcB j (by rw [HB.out.2]; exact hlt)
  have hst : l.getD j 0 ≠ l'.getD j 0 → decide (l = l') = false := fun e => decide_eq_false (fun e2 => e (by rw [e2]))
  have hgo : l.getD j 0 = l'.getD j 0 → ∀ i, i < j + 1 → l.getD i 0 = l'.getD i 0 := fun e i hi => by
    rcases Nat.lt_or_ge i j with h | h
    · exact HO.out i h
    · rw [show i = j by omega]; exact e
  have HS := Lib.hid (And.intro hst hgo)
  clear hst hgo hcA hcB
  generalize l.getD j 0 = x at *
  generalize l'.getD j 0 = y at *
  by_cases hxy : x = y
  · subst hxy
    have e1 : (x == x) = true := by simp
    have e2 : (x != x) = false := by simp
    have HD := Lib.hid (HS.out.2 rfl)
    go_wp2
    go_quiet (fail)
    go_wp2
    go_roundw
    case rel => exact ⟨j + 1, by omega, by go_num, HD.out, Dr.drewN _ _⟩
    case measure => simp [RowKit.intOf]; omega
  · have e1 : (x == y) = false := by simpa using hxy
    have e2 : (x != y) = true := by simpa using hxy
    have HD := Lib.hid (HS.out.1 hxy)
    go_wp2
    go_quiet (fail)
    go_wp2
    go_ret
    exact ⟨by rw [HD.out]; rfl, Keep.dr ((Dr.drewN w md).trans (Dr.drewN _ _))⟩

set_option maxHeartbeats 1000000 in
theorem light12_any (w : World) (A0 A1 A2 : Option Addr) (c0 c1 c2 : Nat) (g : Gr) (h : GIn w A0 A1 A2 c0 c1 c2 g) :
    Calls Try.prog 9 #[.agg #[.slice A0 g.nodes.length c0, .slice A1 g.roots.length c1, .slice A2 g.weaks.length c2]] w fun e w' => e = .returned (.bool (decide (Light12 g))) ∧ Keep [] w w' := by
  obtain ⟨n, hn⟩ : ∃ n, g.nodes.length = n := ⟨_, rfl⟩
  obtain ⟨n1, hn1⟩ : ∃ n1, g.roots.length = n1 := ⟨_, rfl⟩
  obtain ⟨n2, hn2⟩ : ∃ n2, g.weaks.length = n2 := ⟨_, rfl⟩
  have hnc := h.nodes.nc
  have hncm := h.nodes.cap
  have h1c := h.roots.nc
  have h1m := h.roots.cap
  have h2c := h.weaks.nc
  have h2m := h.weaks.cap
  rw [hn] at hnc ⊢
  rw [hn1] at h1c ⊢
  rw [hn2] at h2c ⊢
  have ka : Keep [] w (w.alloc (.cells #[.slice A0 n c0, .slice A1 n1 c1, .slice A2 n2 c2] 25)) := Keep.alloc _ _
  have HG := Lib.hid (And.intro h.nodes hn)
  have HD := Lib.hid (show ∀ b, (decide (Light12 g) = b) → decide (Light12 g) = b from fun b e => e)
  have hl : Light12 g ↔ n ≤ 60 ∧ n1 ≤ 40 ∧ n2 ≤ 40 ∧ ∀ i, i < n → (g.at i).fs.length ≤ 30 := by
    unfold Light12 Gr.n
    rw [hn, hn1, hn2]
  have HL := Lib.hid hl
  clear h hn hn1 hn2 hl
  by_cases a1 : 60 < n
  · have a1' : (60 : Int) < n := by omega
    have HE := Lib.hid (show decide (Light12 g) = false from decide_eq_false (fun e => by have := (HL.out.1 e).1; omega))
    go_enter Try.func9, Try.ntmps9
    go_wp2
    go_ret
    exact ⟨by rw [HE.out]; rfl, ka⟩
  have a1' : ¬ (60 : Int) < n := by omega
  by_cases a2 : 40 < n1
  · have a2' : (40 : Int) < n1 := by omega
    have HE := Lib.hid (show decide (Light12 g) = false from decide_eq_false (fun e => by have := (HL.out.1 e).2.1; omega))
    go_enter Try.func9, Try.ntmps9
    go_wp2
    go_ret
    exact ⟨by rw [HE.out]; rfl, ka⟩
  have a2' : ¬ (40 : Int) < n1 := by omega
  by_cases a3 : 40 < n2
  · have a3' : (40 : Int) < n2 := by omega
    have HE := Lib.hid (show decide (Light12 g) = false from decide_eq_false (fun e => by have := (HL.out.1 e).2.2.1; omega))
    go_enter Try.func9, Try.ntmps9
    go_wp2
    go_ret
    exact ⟨by rw [HE.out]; rfl, ka⟩
  have a3' : ¬ (40 : Int) < n2 := by omega
  have b1 : decide (60 < n) = false := by simpa using a1
  have b2 : decide (40 < n1) = false := by simpa using a2
  have b3 : decide (40 < n2) = false := by simpa using a3
  obtain ⟨w1, hw1⟩ : ∃ w1, w1 = w.alloc (.cells #[.slice A0 n c0, .slice A1 n1 c1, .slice A2 n2 c2] 25) := ⟨_, rfl⟩
  rw [← hw1] at ka
  have HKA := Lib.hid ka
  have HW1 := Lib.hid hw1
  clear ka hw1
  go_enter Try.func9, Try.ntmps9
  go_wp2
  rw [← HW1.out]
  go_loopw [24] (fun x wr => ∃ k : Nat, k ≤ n ∧ x = .int .i64 k ∧ (∀ i, i < k → (g.at i).fs.length ≤ 30) ∧ Keep [] w1 wr) (fun x _ => n - (RowKit.intOf x).toNat)
  case atStart => exact ⟨0, by omega, rfl, fun i hi => by omega, Keep.refl _ _⟩
  case round =>
  obtain ⟨k, hk, rfl, hok, hK⟩ := hrel
  have HO := Lib.hid (And.intro hok hK)
  by_cases hkt : k < n
  case neg =>
    obtain rfl : k = n := by omega
    have HE := Lib.hid (show decide (Light12 g) = true from decide_eq_true (HL.out.2 ⟨by omega, by omega, by omega, hok⟩))
    clear hok hK
    go_wp2
    go_ret
    exact ⟨by rw [HE.out]; rfl, HKA.out.trans HO.out.2⟩
  obtain ⟨bN, oN, rfl, hbN, hcN⟩ := (HG.out.1.keep (HKA.out.trans hK)).cells (by rw [HG.out.2]; omega)
  obtain ⟨AF, cF, e0, e1, hvF⟩ := hcN k (by rw [HG.out.2]; exact hkt)
  have hfs : (g.nodes.getD k nod0) = g.at k := rfl
  rw [hfs] at e0 e1
  have hst : 30 < (g.at k).fs.length → decide (Light12 g) = false := fun e => decide_eq_false (fun e2 => by have := (HL.out.1 e2).2.2.2 k hkt; omega)
  have hgo : ¬ 30 < (g.at k).fs.length → ∀ i, i < k + 1 → (g.at i).fs.length ≤ 30 := fun e i hi => by
    rcases Nat.lt_or_ge i k with h | h
    · exact hok i h
    · rw [show i = k by omega]; omega
  have HS := Lib.hid (And.intro hst hgo)
  clear hcN hfs hvF hst hgo hok hK
  generalize (g.at k).fs.length = mF at *
  generalize (g.at k).K = NK at *
  have ka : Keep [] wr (wr.alloc (.cells #[.int .i64 NK, .slice AF mF cF] 35)) := Keep.alloc _ _
  have HK := Lib.hid (HO.out.2.trans ka)
  clear ka
  by_cases h30 : 30 < mF
  · have h30' : (30 : Int) < mF := by omega
    have HE := Lib.hid (HS.out.1 h30)
    go_wp2
    go_ret
    exact ⟨by rw [HE.out]; rfl, HKA.out.trans HK.out⟩
  · have h30' : ¬ (30 : Int) < mF := by omega
    have HE := Lib.hid (HS.out.2 h30)
    go_wp2
    go_roundw
    case rel => exact ⟨k + 1, by omega, by go_num, HE.out, HK.out⟩
    case measure => simp [RowKit.intOf]; omega
end Go.Proofs.Ytigclopkoolocaa
