/-
  object.Field and the document's twin of it: the same answer. No conditions but what is in memory.
-/
import Derived.Test.YtbmnhngkmokklaaOb3
namespace Go.Flo
open Go.RowKit Go.Bit

/-- What Field answers of a kind that is there: the place, the words or none, the error. -/
def fldO (mK : Nat) (fK : Nat → Int) (i : Int) (v : Val) : Int × Option (List Int) × Int :=
  if 0 ≤ i ∧ i < mK then (match wordsV (fK i.toNat) v with | none => (0, none, 3) | some x => ((sumF fK i.toNat : Nat), some x, 0)) else (0, none, 4)

def fldE (n : Nat) (m : Nat → Nat) (f : Nat → Nat → Int) (k i : Int) (v : Val) : Int × Option (List Int) × Int :=
  if FindP n m f k then fldO (m k.toNat) (f k.toNat) i v else (0, none, 3)

def FldPost (r : Int × Option (List Int) × Int) (w : World) (e : Ending) (w' : World) : Prop :=
  ∃ A c, e = .returned (.tuple #[.int .i64 r.1, .slice A (r.2.1.getD []).length c, .int .i64 r.2.2]) ∧ (r.2.1.getD []).length ≤ c ∧ c ≤ 9223372036854775807 ∧ Wd w' A (r.2.1.getD []) ∧ Keep [] w w'

theorem Wd.len_le {w : World} {A : Option Addr} {l : List Int} (h : Wd w A l) {n : Nat} (hn : l.length = n) : n ≤ 9223372036854775807 := hn ▸ h.len

theorem FldPost.no {x : Int} {w w' : World} (hk : Keep [] w w') : FldPost (0, none, x) w (.returned (.tuple #[.int .i64 0, .slice none 0 0, .int .i64 x])) w' := ⟨none, 0, rfl, by simp, by omega, Wd.nil _ _, hk⟩
theorem FldPost.since {r : Int × Option (List Int) × Int} {w w1 w' : World} {e : Ending} (h : FldPost r w1 e w') (hk : Keep [] w w1) : FldPost r w e w' := by
  obtain ⟨A, c, h1, h2, h3, h4, h5⟩ := h
  exact ⟨A, c, h1, h2, h3, h4, hk.trans h5⟩
end Go.Flo
namespace Go.Proofs.Ytbmnhngkmokklaa
open Go.RowKit Go.Flo Go.Bit
set_option maxRecDepth 100000

set_option maxHeartbeats 1000000 in
theorem layf_any (w : World) (A : Option Addr) (mK c : Nat) (fK : Nat → Int) (i v0 v1 v2 v3 v4 : Int) (h : Ints w A mK c fK) (hM : MayK mK fK) :
    Calls Try.prog 25 #[.agg #[.slice A mK c], .int .i64 i, .agg #[.int .i64 v0, .int .i64 v1, .int .u64 v2, .int .u64 v3, .int .i64 v4]] w (FldPost (fldO mK fK i ⟨v0, v1, v2, v3, v4⟩) w) := by
  have k1 : Keep [] w (w.alloc (.cells #[.slice A mK c] 47)) := Keep.alloc _ _
  have k2 : Keep [] (w.alloc (.cells #[.slice A mK c] 47)) ((w.alloc (.cells #[.slice A mK c] 47)).alloc (.cells #[.int .i64 v0, .int .i64 v1, .int .u64 v2, .int .u64 v3, .int .i64 v4] 26)) := Keep.alloc _ _
  have hB1 := (Blk.new w 47 #[.slice A mK c]).keep k2 (by simp)
  have hB2 := Blk.new (w.alloc (.cells #[.slice A mK c] 47)) 26 #[.int .i64 v0, .int .i64 v1, .int .u64 v2, .int .u64 v3, .int .i64 v4]
  have es : (w.alloc (.cells #[.slice A mK c] 47)).heap.size = w.heap.size + 1 := by simp
  rw [es] at hB2
  obtain ⟨w2, hw2⟩ : ∃ w2, w2 = ((w.alloc (.cells #[.slice A mK c] 47)).alloc (.cells #[.int .i64 v0, .int .i64 v1, .int .u64 v2, .int .u64 v3, .int .i64 v4] 26)) := ⟨_, rfl⟩
  have k12 := k1.trans k2
  rw [← hw2] at hB1 hB2 k12
  have ho := koffset_any w2 A mK c fK i (h.keep k12)
  rw [show kwds mK fK = sumF fK mK from if_pos ⟨hM.1, hM.2.1, hM.2.2.1⟩] at ho
  have HI := Lib.hid (h.keep k12)
  have hnc := h.nc
  have hcc := h.cap
  have hm15 := hM.2.1
  have hg := sumF_ge fK mK
  clear h k1 k2 es
  by_cases hi : 0 ≤ i ∧ i < mK
  case neg =>
    rw [show fldO mK fK i ⟨v0, v1, v2, v3, v4⟩ = (0, none, 4) from if_neg hi]
    rw [show offZ (sumF fK mK) mK fK i = -1 from if_pos (by omega)] at ho
    clear hM hg hB1 hB2 hi
    go_enter Try.func25, Try.ntmps25
    subst hw2
    go_wp2_with fail
    (with_reducible refine ho.mono ?_)
    rintro e w3 ⟨rfl, k3⟩
    go_wp2
    go_ret3
    exact FldPost.no (k12.trans k3)
  obtain ⟨j, rfl⟩ : ∃ j : Nat, i = j := ⟨i.toNat, by omega⟩
  have hj : j < mK := by omega
  have ho2 : offZ (sumF fK mK) mK fK (j : Int) = ((sumF fK j : Nat) : Int) := by
    unfold offZ
    rw [if_neg (by omega), Int.toNat_natCast]
  rw [ho2] at ho
  have hsj := sumF_le fK j
  have hvw : ∀ W, Calls Try.prog 35 #[.int .i64 (fK j), .agg #[.int .i64 v0, .int .i64 v1, .int .u64 v2, .int .u64 v3, .int .i64 v4]] W (WPost (wordsV (fK j) ⟨v0, v1, v2, v3, v4⟩) W) := fun W => vwords_any _ _ _ _ _ _ W
  have hR : fldO mK fK (j : Int) ⟨v0, v1, v2, v3, v4⟩ = (match wordsV (fK j) ⟨v0, v1, v2, v3, v4⟩ with | none => (0, none, 3) | some x => ((sumF fK j : Nat), some x, 0)) := by
    unfold fldO
    rw [if_pos hi, Int.toNat_natCast]
  rw [hR]
  obtain ⟨bA, oA, rfl, hbA, hcA⟩ := HI.out.cells (by omega)
  have cA := hcA j hj
  clear hM hg ho2 hR hcA hi HI
  generalize sumF fK j = s at *
  generalize fK j = fj at *
  obtain ⟨x, hx⟩ : ∃ x, wordsV fj ⟨v0, v1, v2, v3, v4⟩ = x := ⟨_, rfl⟩
  rw [hx] at hvw ⊢
  clear hx
  unfold WPost at hvw
  obtain ⟨n, hn⟩ : ∃ n, (x.getD []).length = n := ⟨_, rfl⟩
  obtain ⟨i1, hi1⟩ : ∃ i1, x.isSome = i1 := ⟨_, rfl⟩
  have hvw' : ∀ W, Calls Try.prog 35 #[.int .i64 fj, .agg #[.int .i64 v0, .int .i64 v1, .int .u64 v2, .int .u64 v3, .int .i64 v4]] W (fun e w' => ∃ A, e = .returned (.tuple #[.slice A n n, .bool i1]) ∧ Wd w' A (x.getD []) ∧ Keep [] W w') := by
    intro W
    have := hvw W
    rwa [hn, hi1] at this
  have HH := Lib.hid (And.intro hn hi1)
  clear hvw hn hi1
  go_enter Try.func25, Try.ntmps25
  subst hw2
  go_wp2_with fail
  (with_reducible refine ho.mono ?_)
  rintro e w3 ⟨rfl, k3⟩
  have cK := ((hB1.keep k3 (by simp)).cell 0).trans (show _ = some (Value.slice (some ⟨bA, oA, none⟩) mK c) from rfl)
  have hB3 := hB2.keep k3 (by simp)
  have d0 := (hB3.cell 0).trans (show _ = some (Value.int .i64 v0) from rfl)
  have d1 := (hB3.cell 1).trans (show _ = some (Value.int .i64 v1) from rfl)
  have d2 := (hB3.cell 2).trans (show _ = some (Value.int .u64 v2) from rfl)
  have d3 := (hB3.cell 3).trans (show _ = some (Value.int .u64 v3) from rfl)
  have d4 := (hB3.cell 4).trans (show _ = some (Value.int .i64 v4) from rfl)
  have cA3 := (k3.cell (p := ⟨bA, _, none⟩) hbA (by simp)).trans cA
  clear hB3
  go_upto_region 4 with fail
  go_cut [10, 11] (fun s10 s11 wx => ∃ A, s10 = .slice A n n ∧ s11 = .bool i1 ∧ Wd wx A (x.getD []) ∧ Keep [] w3 wx)
  case first =>
    go_wp2_with fail
    go_region_with (go_at_call 35; refine (hvw' _).mono ?_; rintro e w4 ⟨A4, rfl, hW4, k4⟩)
    all_goals
      go_wp2_with fail
      go_meet
      exact ⟨A4, rfl, rfl, (by first | exact hW4 | exact hW4.keep (Keep.drew _)), (by repeat (first | exact k4 | (with_reducible refine Keep.trans ?_ (Keep.drew _)) | (with_reducible refine Keep.trans (Keep.drew _) ?_)))⟩
  case rest =>
  obtain ⟨A4, rfl, rfl, hW4, k4⟩ := hcut
  obtain ⟨hn, hi1⟩ := HH.out
  have HD := Lib.hid (And.intro hn (And.intro hi1 (And.intro hW4 ((k12.trans k3).trans k4))))
  clear hn hW4 cK d0 d1 d2 d3 d4 cA3 cA hB1 hB2
  cases i1 with
  | false =>
    obtain rfl : x = none := by cases x; rfl; simp at hi1
    clear hi1
    go_wp2
    go_ret3
    exact FldPost.no HD.out.2.2.2
  | true =>
    obtain ⟨y, rfl⟩ : ∃ y, x = some y := by cases x; simp at hi1; exact ⟨_, rfl⟩
    clear hi1
    go_wp2
    go_ret3
    obtain ⟨h1, h2, h3, h4⟩ := HD.out
    simp only [Option.getD_some] at h1 h3
    exact ⟨A4, n, by simp [h1], by simp [h1], h3.len_le h1, h3, h4⟩

set_option maxHeartbeats 1000000 in
theorem fld_any (w : World) (A : Option Addr) (n cap : Nat) (m : Nat → Nat) (f : Nat → Nat → Int) (k i v0 v1 v2 v3 v4 : Int) (hK : KRow w A n cap m f) :
    Calls Try.prog 12 #[.slice A n cap, .int .i64 k, .int .i64 i, .agg #[.int .i64 v0, .int .i64 v1, .int .u64 v2, .int .u64 v3, .int .i64 v4]] w (FldPost (fldE n m f k i ⟨v0, v1, v2, v3, v4⟩) w) := by
  have kv : Keep [] w (w.alloc (.cells #[.int .i64 v0, .int .i64 v1, .int .u64 v2, .int .u64 v3, .int .i64 v4] 26)) := Keep.alloc _ _
  have hBv := Blk.new w 26 #[.int .i64 v0, .int .i64 v1, .int .u64 v2, .int .u64 v3, .int .i64 v4]
  by_cases hP : FindP n m f k
  case neg =>
    rw [show fldE n m f k i ⟨v0, v1, v2, v3, v4⟩ = (0, none, 3) from if_neg hP]
    have hf := find_no (w.alloc (.cells #[.int .i64 v0, .int .i64 v1, .int .u64 v2, .int .u64 v3, .int .i64 v4] 26)) A n cap m f k (hK.keep kv) hP
    clear hP hK hBv
    go_enter Try.func12, Try.ntmps12
    go_wp2_with fail
    (with_reducible refine hf.mono ?_)
    rintro e w2 ⟨rfl, k2⟩
    go_wp2
    go_ret3
    exact FldPost.no (kv.trans (k2.trans (Keep.alloc _ _)))
  have hE : fldE n m f k i ⟨v0, v1, v2, v3, v4⟩ = fldO (m k.toNat) (f k.toNat) i ⟨v0, v1, v2, v3, v4⟩ := if_pos hP
  rw [hE]
  obtain ⟨p0, p1, p2, p3⟩ := hP
  obtain ⟨K, rfl⟩ : ∃ K : Nat, k = K := ⟨k.toNat, by omega⟩
  rw [Int.toNat_natCast] at p3 ⊢
  obtain ⟨b, o, rfl, hb, hc⟩ := (hK.keep kv).cells (by omega)
  obtain ⟨A', c', cj, hI⟩ := hc K (by omega)
  have hf := find_yes _ n cap K (m K) c' b o A' (f K) hK.nc hK.cap (by omega) (by omega) hb cj hI p3
  have hnc := hI.nc
  have hcc := hI.cap
  clear hE hc cj
  generalize m K = mK at *
  generalize f K = fK at *
  obtain ⟨R, hR⟩ : ∃ R, fldO mK fK i ⟨v0, v1, v2, v3, v4⟩ = R := ⟨_, rfl⟩
  have hl := fun W (hk : Keep [] (w.alloc (.cells #[.int .i64 v0, .int .i64 v1, .int .u64 v2, .int .u64 v3, .int .i64 v4] 26)) W) => layf_any W A' mK c' fK i v0 v1 v2 v3 v4 (hI.keep hk) p3
  rw [hR] at hl ⊢
  have HL := Lib.hid hl
  clear hl hK hI p3 hR
  go_enter Try.func12, Try.ntmps12
  go_wp2_with fail
  (with_reducible refine hf.mono ?_)
  rintro e w2 ⟨rfl, k2⟩
  have ka : Keep [] w2 (w2.alloc (.cells #[.slice A' mK c'] 47)) := Keep.alloc _ _
  have hl := HL.out _ (k2.trans ka)
  unfold FldPost at hl
  have hB3 := (hBv.keep k2 (by simp)).keep ka (by simp)
  have d0 := (hB3.cell 0).trans (show _ = some (Value.int .i64 v0) from rfl)
  have d1 := (hB3.cell 1).trans (show _ = some (Value.int .i64 v1) from rfl)
  have d2 := (hB3.cell 2).trans (show _ = some (Value.int .u64 v2) from rfl)
  have d3 := (hB3.cell 3).trans (show _ = some (Value.int .u64 v3) from rfl)
  have d4 := (hB3.cell 4).trans (show _ = some (Value.int .i64 v4) from rfl)
  clear hB3 hBv
  go_wp2_with fail
  (with_reducible refine hl.mono ?_)
  rintro e w3 ⟨A3, c3, rfl, e1, e2, e3, k3⟩
  have HF := Lib.hid (And.intro e1 (And.intro e2 (And.intro e3 (kv.trans ((k2.trans ka).trans k3)))))
  clear e1 e2 e3 k3 hl d0 d1 d2 d3 d4
  go_wp2
  go_ret3
  exact ⟨A3, c3, rfl, HF.out⟩

set_option maxHeartbeats 1000000 in
theorem rfld_any (w : World) (A : Option Addr) (n cap : Nat) (m : Nat → Nat) (f : Nat → Nat → Int) (k i v0 v1 v2 v3 v4 : Int) (hK : KRow w A n cap m f) :
    Calls Try.prog 13 #[.slice A n cap, .int .i64 k, .int .i64 i, .agg #[.int .i64 v0, .int .i64 v1, .int .u64 v2, .int .u64 v3, .int .i64 v4]] w (FldPost (fldE n m f k i ⟨v0, v1, v2, v3, v4⟩) w) := by
  have kv : Keep [] w (w.alloc (.cells #[.int .i64 v0, .int .i64 v1, .int .u64 v2, .int .u64 v3, .int .i64 v4] 26)) := Keep.alloc _ _
  have hBv := Blk.new w 26 #[.int .i64 v0, .int .i64 v1, .int .u64 v2, .int .u64 v3, .int .i64 v4]
  by_cases hP : FindP n m f k
  case neg =>
    rw [show fldE n m f k i ⟨v0, v1, v2, v3, v4⟩ = (0, none, 3) from if_neg hP]
    have hf := kof_no (w.alloc (.cells #[.int .i64 v0, .int .i64 v1, .int .u64 v2, .int .u64 v3, .int .i64 v4] 26)) A n cap m f k (hK.keep kv) hP
    clear hP hK hBv
    go_enter Try.func13, Try.ntmps13
    go_wp2_with fail
    (with_reducible refine hf.mono ?_)
    rintro e w2 ⟨rfl, k2⟩
    go_wp2
    go_ret3
    exact FldPost.no (kv.trans (k2.trans (Keep.alloc _ _)))
  have hE : fldE n m f k i ⟨v0, v1, v2, v3, v4⟩ = fldO (m k.toNat) (f k.toNat) i ⟨v0, v1, v2, v3, v4⟩ := if_pos hP
  rw [hE]
  obtain ⟨p0, p1, p2, p3⟩ := hP
  obtain ⟨K, rfl⟩ : ∃ K : Nat, k = K := ⟨k.toNat, by omega⟩
  rw [Int.toNat_natCast] at p3 ⊢
  obtain ⟨b, o, rfl, hb, hc⟩ := (hK.keep kv).cells (by omega)
  obtain ⟨A', c', cj, hI⟩ := hc K (by omega)
  have hf := kof_yes _ n cap K (m K) c' b o A' (f K) hK.nc hK.cap (by omega) (by omega) hb cj hI p3
  have hnc := hI.nc
  have hcc := hI.cap
  clear hE hc cj
  generalize m K = mK at *
  generalize f K = fK at *
  have HI := Lib.hid hI
  by_cases hi : 0 ≤ i ∧ i < mK
  case neg =>
    rw [show fldO mK fK i ⟨v0, v1, v2, v3, v4⟩ = (0, none, 4) from if_neg hi]
    by_cases h0 : i < 0
    · clear hi hK hI p3
      go_enter Try.func13, Try.ntmps13
      go_wp2_with fail
      (with_reducible refine hf.mono ?_)
      rintro e w2 ⟨rfl, k2⟩
      go_wp2
      go_ret3
      exact FldPost.no (kv.trans (k2.trans (Keep.alloc _ _)))
    · have h1 : (mK : Int) ≤ i := by omega
      clear hi hK hI p3
      go_enter Try.func13, Try.ntmps13
      go_wp2_with fail
      (with_reducible refine hf.mono ?_)
      rintro e w2 ⟨rfl, k2⟩
      go_wp2
      go_ret3
      exact FldPost.no (kv.trans (k2.trans (Keep.alloc _ _)))
  obtain ⟨j, rfl⟩ : ∃ j : Nat, i = j := ⟨i.toNat, by omega⟩
  have hj : j < mK := by omega
  have hof := fun W (hk : Keep [] (w.alloc (.cells #[.int .i64 v0, .int .i64 v1, .int .u64 v2, .int .u64 v3, .int .i64 v4] 26)) W) => roffset_any W A' mK c' fK j (hI.keep hk)
  have ho2 : offZ (kwds mK fK) mK fK (j : Int) = ((sumF fK j : Nat) : Int) := by
    rw [show kwds mK fK = sumF fK mK from if_pos ⟨p3.1, p3.2.1, p3.2.2.1⟩]
    have := sumF_ge fK mK
    unfold offZ
    rw [if_neg (by omega), Int.toNat_natCast]
  rw [ho2] at hof
  have hvw : ∀ W, Calls Try.prog 24 #[.int .i64 (fK j), .agg #[.int .i64 v0, .int .i64 v1, .int .u64 v2, .int .u64 v3, .int .i64 v4]] W (WPost (wordsV (fK j) ⟨v0, v1, v2, v3, v4⟩) W) := fun W => rvwords_any _ _ _ _ _ _ W
  have hR : fldO mK fK (j : Int) ⟨v0, v1, v2, v3, v4⟩ = (match wordsV (fK j) ⟨v0, v1, v2, v3, v4⟩ with | none => (0, none, 3) | some x => ((sumF fK j : Nat), some x, 0)) := by
    unfold fldO
    rw [if_pos hi, Int.toNat_natCast]
  rw [hR]
  obtain ⟨bA, oA, rfl, hbA, hcA⟩ := HI.out.cells (by omega)
  have cA := hcA j hj
  have HOF := Lib.hid hof
  clear hK hI p3 ho2 hR hcA hi HI hof
  generalize sumF fK j = s at *
  generalize fK j = fj at *
  obtain ⟨x, hx⟩ : ∃ x, wordsV fj ⟨v0, v1, v2, v3, v4⟩ = x := ⟨_, rfl⟩
  rw [hx] at hvw ⊢
  clear hx
  unfold WPost at hvw
  obtain ⟨n', hn⟩ : ∃ n', (x.getD []).length = n' := ⟨_, rfl⟩
  obtain ⟨i1, hi1⟩ : ∃ i1, x.isSome = i1 := ⟨_, rfl⟩
  have hvw' : ∀ W, Calls Try.prog 24 #[.int .i64 fj, .agg #[.int .i64 v0, .int .i64 v1, .int .u64 v2, .int .u64 v3, .int .i64 v4]] W (fun e w' => ∃ A, e = .returned (.tuple #[.slice A n' n', .bool i1]) ∧ Wd w' A (x.getD []) ∧ Keep [] W w') := by
    intro W
    have := hvw W
    rwa [hn, hi1] at this
  have HH := Lib.hid (And.intro hn hi1)
  clear hvw hn hi1
  go_enter Try.func13, Try.ntmps13
  go_wp2_with fail
  (with_reducible refine hf.mono ?_)
  rintro e w2 ⟨rfl, k2⟩
  have ka : Keep [] w2 (w2.alloc (.cells #[.slice (some ⟨bA, oA, none⟩) mK c'] 47)) := Keep.alloc _ _
  have hB3 := (hBv.keep k2 (by simp)).keep ka (by simp)
  have d0 := (hB3.cell 0).trans (show _ = some (Value.int .i64 v0) from rfl)
  have d1 := (hB3.cell 1).trans (show _ = some (Value.int .i64 v1) from rfl)
  have d2 := (hB3.cell 2).trans (show _ = some (Value.int .u64 v2) from rfl)
  have d3 := (hB3.cell 3).trans (show _ = some (Value.int .u64 v3) from rfl)
  have d4 := (hB3.cell 4).trans (show _ = some (Value.int .i64 v4) from rfl)
  have HB := Lib.hid (Blk.new w2 47 #[.slice (some ⟨bA, oA, none⟩) mK c'])
  have cA3 := ((k2.trans ka).cell (p := ⟨bA, _, none⟩) hbA (by simp)).trans cA
  have k12 := kv.trans (k2.trans ka)
  have HK := Lib.hid (k2.trans ka)
  clear hB3 hBv cA k2 hf
  go_upto_region 6 with fail
  go_cut [13, 14] (fun s13 s14 wx => ∃ A, s13 = .slice A n' n' ∧ s14 = .bool i1 ∧ Wd wx A (x.getD []) ∧ Keep [] (w2.alloc (.cells #[.slice (some ⟨bA, oA, none⟩) mK c'] 47)) wx)
  case first =>
    go_wp2_with fail
    go_region_with (go_at_call 24; refine (hvw' _).mono ?_; rintro e w4 ⟨A4, rfl, hW4, k4⟩)
    all_goals
      go_wp2_with fail
      go_meet
      exact ⟨A4, rfl, rfl, (by first | exact hW4 | exact hW4.keep (Keep.drew _)), (by repeat (first | exact k4 | (with_reducible refine Keep.trans ?_ (Keep.drew _)) | (with_reducible refine Keep.trans (Keep.drew _) ?_)))⟩
  case rest =>
  obtain ⟨A4, rfl, rfl, hW4, k4⟩ := hcut
  obtain ⟨hn, hi1⟩ := HH.out
  have HD := Lib.hid (And.intro hn (And.intro hi1 (And.intro hW4 (k12.trans k4))))
  clear hn d0 d1 d2 d3 d4 cA3 ka
  cases i1 with
  | false =>
    obtain rfl : x = none := by cases x; rfl; simp at hi1
    clear hi1 hW4
    go_wp2
    go_ret3
    exact FldPost.no HD.out.2.2.2
  | true =>
    obtain ⟨y, rfl⟩ : ∃ y, x = some y := by cases x; simp at hi1; exact ⟨_, rfl⟩
    have hof := HOF.out _ (HK.out.trans k4)
    have cK := ((HB.out.keep k4 (by simp)).cell 0).trans (show _ = some (Value.slice (some ⟨bA, oA, none⟩) mK c') from rfl)
    have HW := Lib.hid hW4
    clear hi1 hW4 k4
    go_wp2_with fail
    (with_reducible refine hof.mono ?_)
    rintro e w5 ⟨rfl, k5⟩
    have HW5 := Lib.hid (And.intro (HW.out.keep k5) (HD.out.2.2.2.trans k5))
    clear k5 cK hof
    go_wp2
    go_ret3
    obtain ⟨h1, h2, _, _⟩ := HD.out
    obtain ⟨h3, h4⟩ := HW5.out
    simp only [Option.getD_some] at h1 h3
    exact ⟨A4, n', by simp [h1], by simp [h1], h3.len_le h1, h3, h4⟩
end Go.Proofs.Ytbmnhngkmokklaa
