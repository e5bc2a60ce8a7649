/-
  Package kind: Refs, Word, Same (slices.Equal). No conditions but what is in memory.
-/
import Derived.Test.YtolighoceecheaaKnd1
import Derived.Test.YtolighoceecheaaR67
namespace Go.Flo
open Go.RowKit Go.Bit

/-- The places of the references among the first k fields. -/
def rfs (f : Nat → Int) : Nat → List Nat
  | 0 => []
  | k + 1 => if f k = 3 then rfs f k ++ [k] else rfs f k
theorem rfs_len (f : Nat → Int) (k : Nat) : (rfs f k).length ≤ k := by
  induction k with
  | zero => simp [rfs]
  | succ k ih => unfold rfs; split <;> (try simp) <;> omega
/-- The places as numbers. -/
def rff (f : Nat → Int) (k j : Nat) : Int := (((rfs f k).getD j 0 : Nat) : Int)
def kwz (m : Nat) (f : Nat → Int) : Nat := if MayK m f then kw m f else 0
end Go.Flo
namespace Go.Proofs.Ytolighoceecheaa
open Go.RowKit Go.Flo Go.Bit
set_option maxRecDepth 100000

theorem rfs_map (f : Nat → Int) (k : Nat) : (rfs f k).map (fun i => Value.int .i64 (i : Nat)) = (List.range (rfs f k).length).map (iv (rff f k)) := by
  apply List.ext_getElem (by simp)
  intro i h1 h2
  have h3 : i < (rfs f k).length := by simpa using h1
  simp [iv, rff, h3]

/-- What Refs tells. -/
def RefPost (m : Nat) (f : Nat → Int) (w : World) (e : Ending) (w' : World) : Prop :=
  ∃ A c, e = .returned (.slice A (rfs f m).length c) ∧ Ints w' A (rfs f m).length c (rff f m) ∧ (∀ a, A = some a → w.heap.size ≤ a.block) ∧ Keep [] w w'
def RfRel (w : World) (m : Nat) (f : Nat → Int) (x y : Value) (wr : World) : Prop :=
  ∃ j : Nat, j ≤ m ∧ y = .int .i64 j ∧ wr.ownsRow (w.heap.size + 1) 3 1 x (rfs f j).length ((rfs f j).map (fun i => Value.int .i64 (i : Nat))) ∧ Keep [] w wr

set_option maxHeartbeats 1000000 in
theorem krefs_any (w : World) (A : Option Addr) (m c : Nat) (f : Nat → Int) (hm : m ≤ 1000) (h : Ints w A m c f) :
    Calls Try.prog 16 #[.agg #[.slice A m c]] w (RefPost m f w) := by
  have k1 : Keep [] w (w.alloc (.cells #[.slice A m c] 25)) := Keep.alloc _ _
  have HI := Lib.hid h
  have hcc := h.cap
  have hnc := h.nc
  clear h
  obtain ⟨ii, hii, hz0, hz1, hz2⟩ := info_of intparts
  go_enter Try.func16, Try.ntmps16
  go_wp2
  go_loopw [3, 9] (fun x y wr => RfRel w m f x y wr) (fun _ y _ => m - (intOf y).toNat)
  case atStart => exact ⟨0, by omega, rfl, ⟨rfl, Or.inl ⟨rfl, rfl⟩⟩, k1⟩
  case round =>
  obtain ⟨j, hj, rfl, hown, hK⟩ := hrel
  by_cases hlt : j < m
  case neg =>
    obtain rfl : j = m := by omega
    rw [rfs_map] at hown
    obtain ⟨A', c', rfl, hI', hA⟩ := owns_ints hown
    have HH := Lib.hid (And.intro hI' (And.intro hA hK))
    clear hown hI' hA hK
    go_wp2
    go_ret
    exact ⟨A', c', rfl, HH.out.1, fun a ha => by have := HH.out.2.1 a ha; omega, HH.out.2.2⟩
  obtain ⟨b, o, rfl, hb, hc⟩ := (HI.out.keep hK).cells (by omega)
  have cj := hc j hlt
  clear hc
  by_cases h3 : f j = 3
  case neg =>
    have hne : (f j == 3) = false := by simpa using h3
    have HR := Lib.hid (show rfs f (j + 1) = rfs f j from if_neg h3)
    have HH := Lib.hid (And.intro hown hK)
    clear hown hK h3
    go_wp2
    go_roundw
    case rel => exact ⟨j + 1, by omega, by go_num, by rw [HR.out]; exact HH.out.1, HH.out.2⟩
    case measure => simp [intOf]; omega
  have HR := Lib.hid (show rfs f (j + 1) = rfs f j ++ [j] from if_pos h3)
  rw [h3] at cj
  have hl := rfs_len f j
  have hsz := hK.size
  have ka : Keep [] wr (wr.alloc (.cells #[.int .i64 (j : Nat)] 3)) := Keep.alloc _ _
  have HO := Lib.hid (hown.alloc (.cells #[.int .i64 (j : Nat)] 3))
  have HNW := Lib.hid (one_new6 wr (.int .i64 (j : Nat)) 3)
  have HKA := Lib.hid (hK.trans ka)
  clear hown hK h3 ka
  go_wp2_with (at_builtin; refine wpList_append_own_at _ rfl (.tmp 16) (.tmp 18) 22 rfl (w.heap.size + 1) 3 ii (.int .i64 0) 1 8 Try.underlying22 hii hz0 hz1 hz2 rfl (by omega) _ (rfs f j).length ((rfs f j).map (fun i => Value.int .i64 (i : Nat))) rfl HO.out ⟨wr.heap.size, 0, none⟩ 1 1 [.int .i64 (j : Nat)] rfl ?c1 HNW.out ?c3 ?c4 ?c5 ?c6 ?_)
  case c1 => rfl
  case c3 => intro z hz; simp at hz; subst hz; rfl
  case c4 => unfold maxLen; omega
  case c5 => omega
  case c6 => simp; omega
  intro v' w' hown hgrow hnil hblk
  have hk4 := grown_keep HKA.out (show w.heap.size ≤ w.heap.size + 1 by omega) HO.out hgrow
  have HF := Lib.hid (And.intro hown hk4)
  clear hown hgrow hnil hblk hk4
  go_wp2
  go_roundw
  case rel => exact ⟨j + 1, by omega, by go_num, by rw [HR.out]; simpa using HF.out.1, HF.out.2⟩
  case measure => simp [intOf]; omega

set_option maxHeartbeats 1000000 in
theorem kword_any (w : World) (A : Option Addr) (m c : Nat) (f : Nat → Int) (h : Ints w A m c f) :
    Calls Try.prog 17 #[.agg #[.slice A m c]] w fun e w' => e = .returned (.int .u64 (kwz m f : Nat)) ∧ Keep [] w w' := by
  have hb := Blk.new w 25 #[.slice A m c]
  have k1 : Keep [] w (w.alloc (.cells #[.slice A m c] 25)) := Keep.alloc _ _
  have hmk := kmay_any _ A m c f (h.keep k1)
  by_cases hM : MayK m f
  case neg =>
    rw [show kwz m f = 0 from if_neg hM]
    rw [show decide (MayK m f) = false from decide_eq_false hM] at hmk
    clear hM h hb
    go_enter Try.func17, Try.ntmps17
    go_wp2_with fail
    (with_reducible refine hmk.mono ?_)
    rintro e w2 ⟨rfl, k2⟩
    go_wp2
    go_ret
    exact ⟨rfl, k1.trans k2⟩
  rw [show kwz m f = kw m f from if_pos hM]
  rw [show decide (MayK m f) = true from decide_eq_true hM] at hmk
  have hm := hM.2.1
  have hf : ∀ j, j < m → Fld (f j) := fun j hj => (hM.2.2.1 j hj).fld
  have hI := fun W => int_nat m (by omega) W
  have hS : ∀ W, Calls Try.prog 26 #[.int .u64 0, .int .i64 0, .int .i64 4, .int .u64 (m : Nat)] W fun e w' => e = .returned (.int .u64 (m : Nat)) ∧ Dr W w' := by
    intro W
    have := set_any 0 0 4 m (by omega) (by omega) (by omega) W
    rw [set_above 0 0 4 m (by omega) (by omega), show 0 + m % 2 ^ 4 * 2 ^ 0 = m by omega] at this
    exact this
  have HI := Lib.hid (h.keep k1)
  have HF := Lib.hid hf
  have HB := Lib.hid hb
  have hnc := h.nc
  have hcc := h.cap
  clear h hf hb hM
  go_enter Try.func17, Try.ntmps17
  go_wp2_with fail
  (with_reducible refine hmk.mono ?_)
  rintro e w1 ⟨rfl, k12⟩
  have hb2 := HB.out.keep k12 (by simp)
  have q0 := (hb2.cell 0).trans (show _ = some (Value.slice A m c) from rfl)
  clear hmk
  go_wp2_with fail
  (with_reducible refine (hI _).mono ?_)
  rintro e w' ⟨rfl, rfl⟩
  go_wp2_with fail
  (with_reducible refine (hS _).mono ?_)
  rintro e w2 ⟨rfl, d2⟩
  have k2 := k12.trans (Keep.dr (own := []) d2)
  have q1 := ((hb2.keep (Keep.dr (own := []) d2) (by simp)).cell 0).trans (show _ = some (Value.slice A m c) from rfl)
  clear hI hS hb2 HB q0
  go_wp2
  clear q1
  go_loopw [3, 17] (fun x y wr => KwRel w2 m f x y wr) (fun _ y _ => m - (intOf y).toNat)
  case atStart => exact ⟨0, by omega, rfl, rfl, Keep.refl _ _⟩
  case round =>
  obtain ⟨j, hj, rfl, rfl, hK⟩ := hrel
  by_cases hlt : j < m
  case neg =>
    obtain rfl : j = m := by omega
    go_wp2
    go_ret
    exact ⟨rfl, (k1.trans k2).trans hK⟩
  obtain ⟨b, o, rfl, hb, hc⟩ := (HI.out.keep (k2.trans hK)).cells (by omega)
  have cj := hc j hlt
  have hfj := HF.out j hlt
  have hfj2 := hfj
  unfold Fld at hfj2
  obtain ⟨v, hv⟩ : ∃ v : Nat, f j = (v : Int) := ⟨(f j).toNat, by omega⟩
  have hset := kwA_set m f hm j (by omega) (fun i hi => HF.out i (by omega))
  have hl1 := kwA_lt64 m f hm j (by omega) (fun i hi => HF.out i (by omega))
  obtain ⟨p, hp⟩ : ∃ p, 4 + 2 * j = p := ⟨_, rfl⟩
  rw [hv, Int.toNat_natCast] at hset
  rw [hv] at cj
  have hfa := fun W => kfieldAt_any j (by omega) W
  rw [hp] at hset hfa
  have hI := fun W => int_nat v (by omega) W
  have hS : ∀ W, Calls Try.prog 26 #[.int .u64 (kwA m f j : Nat), .int .i64 p, .int .i64 2, .int .u64 v] W fun e w' => e = .returned (.int .u64 (setN (kwA m f j) p 2 v : Nat)) ∧ Dr W w' := fun W => set_any (kwA m f j) p 2 v (by omega) (by omega) (by omega) W
  rw [hset] at hS
  generalize kwA m f j = X at *
  clear hc hset hp hfj hv hfj2
  go_wp2_with fail
  (with_reducible refine (hfa _).mono ?_)
  rintro e w' ⟨rfl, rfl⟩
  go_wp2_with fail
  (with_reducible refine (hI _).mono ?_)
  rintro e w' ⟨rfl, rfl⟩
  go_wp2_with fail
  (with_reducible refine (hS _).mono ?_)
  rintro e w4 ⟨rfl, d4⟩
  go_wp2
  go_roundw
  case rel => exact ⟨j + 1, by omega, by go_num, rfl, hK.trans (Keep.dr (own := []) d4)⟩
  case measure => simp [intOf]; omega

set_option maxHeartbeats 1000000 in
theorem equal_any (w : World) (A A' : Option Addr) (m c m' c' : Nat) (f f' : Nat → Int) (h : Ints w A m c f) (h' : Ints w A' m' c' f') :
    Calls Try.prog 29 #[.slice A m c, .slice A' m' c'] w fun e w' => e = .returned (.bool (decide (SameI m f m' f'))) ∧ Dr w w' := by
  by_cases c1 : m = m'
  case neg =>
    rw [show decide (SameI m f m' f') = false from decide_eq_false (fun h => c1 h.1)]
    have c2 : ((m : Int) == (m' : Int)) = false := by simp; omega
    go_enter Try.func29, Try.ntmps29
    go_wp2
    go_ret
    exact ⟨rfl, Dr.refl _⟩
  subst c1
  have HI := Lib.hid h
  have HI' := Lib.hid h'
  have hcm := h.nc
  have hcc := h.cap
  have hcm' := h'.nc
  have hcc' := h'.cap
  clear h h'
  go_enter Try.func29, Try.ntmps29
  go_wp2
  go_loopw [13] (fun x wr => SiRel w m f f' x wr) (fun x _ => m - (intOf x).toNat)
  case atStart => exact ⟨0, by omega, rfl, fun i hi => by omega, Dr.refl _⟩
  case round =>
  obtain ⟨j, hj, rfl, hok, hD⟩ := hrel
  have HO := Lib.hid hok
  clear hok
  by_cases hlt : j < m
  case neg =>
    obtain rfl : j = m := by omega
    have HD := Lib.hid (show decide (SameI j f j f') = true from decide_eq_true ⟨rfl, HO.out⟩)
    go_wp2
    go_ret
    exact ⟨by rw [HD.out]; rfl, hD⟩
  obtain ⟨b, o, rfl, hb, hc⟩ := (HI.out.keep (Keep.dr hD)).cells (by omega)
  obtain ⟨b', o', rfl, hb', hc'⟩ := (HI'.out.keep (Keep.dr hD)).cells (by omega)
  have cj := hc j hlt
  have cj' := hc' j hlt
  clear hc hc'
  by_cases he : f j = f' j
  · have HE := Lib.hid he
    have he2 : (f j == f' j) = true := by simp [he]
    clear he
    go_wp2_with fail
    go_quiet (fail)
    go_wp2
    go_roundw
    case rel => exact ⟨j + 1, by omega, by go_num, fun i hi => by
      rcases Nat.lt_or_ge i j with h | h
      · exact HO.out i h
      · rw [show i = j by omega]; exact HE.out, hD.trans (Dr.drewN _ _)⟩
    case measure => simp [intOf]; omega
  · have he2 : (f j == f' j) = false := by simp [he]
    have HD := Lib.hid (show decide (SameI m f m f') = false from decide_eq_false (fun hx => he (hx.2 j hlt)))
    clear he
    go_wp2_with fail
    go_quiet (fail)
    go_wp2
    go_ret
    exact ⟨by rw [HD.out]; rfl, hD.trans (Dr.drewN _ _)⟩

theorem ksame_any (w : World) (A A' : Option Addr) (m c m' c' : Nat) (f f' : Nat → Int) (h : Ints w A m c f) (h' : Ints w A' m' c' f') :
    Calls Try.prog 19 #[.agg #[.slice A m c], .agg #[.slice A' m' c']] w fun e w' => e = .returned (.bool (decide (SameI m f m' f'))) ∧ Keep [] w w' := by
  have k1 : Keep [] w (w.alloc (.cells #[.slice A m c] 25)) := Keep.alloc _ _
  have k2 : Keep [] w ((w.alloc (.cells #[.slice A m c] 25)).alloc (.cells #[.slice A' m' c'] 25)) := k1.trans (Keep.alloc _ _)
  have hs := equal_any _ A A' m c m' c' f f' (h.keep k2) (h'.keep k2)
  clear h h'
  go_enter Try.func19, Try.ntmps19
  go_wp2_with fail
  (with_reducible refine hs.mono ?_)
  rintro e w3 ⟨rfl, d3⟩
  go_wp2
  go_ret
  exact ⟨rfl, k2.trans (Keep.dr d3)⟩
end Go.Proofs.Ytolighoceecheaa
