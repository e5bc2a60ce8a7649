/-
  object.Encode and the document's twin of it: the same answer. No conditions but what is in memory.
-/
import Derived.Test.YtbmnhngkmokklaaOb2
namespace Go.Flo
open Go.RowKit Go.Bit

def EncPost (r : Option (List Int) × Int) (w : World) (e : Ending) (w' : World) : Prop :=
  ∃ A c, e = .returned (.tuple #[.slice A (r.1.getD []).length c, .int .i64 r.2]) ∧ (r.1.getD []).length ≤ c ∧ c ≤ 9223372036854775807 ∧ Wd w' A (r.1.getD []) ∧ Keep [] w w'

theorem EncPost.no {x : Int} {w w' : World} (hk : Keep [] w w') : EncPost (none, x) w (.returned (.tuple #[.slice none 0 0, .int .i64 x])) w' := ⟨none, 0, rfl, by simp, by omega, Wd.nil _ _, hk⟩
end Go.Flo
namespace Go.Proofs.Ytbmnhngkmokklaa
open Go.RowKit Go.Flo Go.Bit
set_option maxRecDepth 100000

/-- .. of a kind that is there. -/
def encO (K mK : Nat) (fK : Nat → Int) (F : Nat → Val) (t : Nat) : Option (List Int) × Int := match encA fK F mK with | none => (none, 3) | some l => (some ((hd K (sumF fK mK) t : Int) :: l), 0)

/-- What Encode answers: words or none, and the error. -/
def encE (n : Nat) (m : Nat → Nat) (f : Nat → Nat → Int) (k : Int) (nf : Nat) (F : Nat → Val) (t : Nat) : Option (List Int) × Int :=
  if FindP n m f k then (if nf = m k.toNat then encO k.toNat (m k.toNat) (f k.toNat) F t else (none, 4)) else (none, 3)

set_option maxHeartbeats 1000000 in
theorem enc_any (w : World) (A B : Option Addr) (n cap nf cb t : Nat) (m : Nat → Nat) (f : Nat → Nat → Int) (k : Int) (F : Nat → Val) (hK : KRow w A n cap m f) (hV : Vals w B nf cb F) (ht : t < 18446744073709551616) :
    Calls Try.prog 10 #[.slice A n cap, .int .i64 k, .slice B nf cb, .int .u64 t] w (EncPost (encE n m f k nf F t) w) := by
  by_cases hP : FindP n m f k
  case neg =>
    rw [show encE n m f k nf F t = (none, 3) from if_neg hP]
    have hf := find_no w A n cap m f k hK hP
    clear hP hK hV
    go_enter Try.func10, Try.ntmps10
    go_wp2_with fail
    (with_reducible refine hf.mono ?_)
    rintro e w2 ⟨rfl, k2⟩
    go_wp2
    go_ret2
    exact EncPost.no (k2.trans (Keep.alloc _ _))
  obtain ⟨p0, p1, p2, p3⟩ := hP
  obtain ⟨K, rfl⟩ : ∃ K : Nat, k = K := ⟨k.toNat, by omega⟩
  rw [Int.toNat_natCast] at p3
  obtain ⟨b, o, rfl, hb, hc⟩ := hK.cells (by omega)
  obtain ⟨A', c', cj, hI⟩ := hc K (by omega)
  have hf := find_yes w n cap K (m K) c' b o A' (f K) hK.nc hK.cap (by omega) (by omega) hb cj hI p3
  have hE : encE n m f (K : Int) nf F t = if nf = m K then encO K (m K) (f K) F t else (none, 4) := by
    unfold encE
    rw [if_pos (show FindP n m f (K : Int) from ⟨p0, p1, p2, by rw [Int.toNat_natCast]; exact p3⟩), Int.toNat_natCast]
  rw [hE]
  have hnc := hI.nc
  have hcc := hI.cap
  have hvc := hV.nc
  have hvm := hV.cap
  clear hE hc cj
  generalize m K = mK at *
  generalize f K = fK at *
  by_cases hn : nf = mK
  case neg =>
    rw [if_neg hn]
    have hn1 : ((nf : Int) == mK) = false := by simp; omega
    have hn2 : ((nf : Int) != mK) = true := by simp; omega
    clear hK hV hI p3
    go_enter Try.func10, Try.ntmps10
    go_wp2_with fail
    (with_reducible refine hf.mono ?_)
    rintro e w2 ⟨rfl, k2⟩
    go_wp2
    go_ret2
    exact EncPost.no (k2.trans (Keep.alloc _ _))
  subst hn
  rw [if_pos rfl]
  have hl := fun W (hk : Keep [] w W) => lay_any W A' B nf c' cb K t fK F (by omega) ht p3 (hI.keep hk) (hV.keep hk)
  unfold LayPost at hl
  unfold encO
  cases hA : encA fK F nf with
  | none =>
    rw [hA] at hl
    simp only [Option.map_none, Option.getD_none, List.length_nil, Option.isSome_none] at hl
    have HL := Lib.hid hl
    clear hl hK hV hI p3 hA
    go_enter Try.func10, Try.ntmps10
    go_wp2_with fail
    (with_reducible refine hf.mono ?_)
    rintro e w2 ⟨rfl, k2⟩
    have ka : Keep [] w2 (w2.alloc (.cells #[.slice A' nf c'] 47)) := Keep.alloc _ _
    have hl := HL.out _ (k2.trans ka)
    go_wp2_with fail
    (with_reducible refine hl.mono ?_)
    rintro e w3 ⟨A3, c3, rfl, _, _, _, k3⟩
    go_wp2
    go_ret2
    exact EncPost.no ((k2.trans ka).trans k3)
  | some l =>
    rw [hA] at hl
    simp only [Option.map_some, Option.getD_some, Option.isSome_some] at hl
    have HL := Lib.hid hl
    show Calls _ _ _ _ (EncPost (some ((hd K (sumF fK nf) t : Int) :: l), 0) w)
    clear hl hK hV hI p3 hA
    generalize ((hd K (sumF fK nf) t : Nat) : Int) :: l = L at *
    go_enter Try.func10, Try.ntmps10
    go_wp2_with fail
    (with_reducible refine hf.mono ?_)
    rintro e w2 ⟨rfl, k2⟩
    have ka : Keep [] w2 (w2.alloc (.cells #[.slice A' nf c'] 47)) := Keep.alloc _ _
    have hl := HL.out _ (k2.trans ka)
    go_wp2_with fail
    (with_reducible refine hl.mono ?_)
    rintro e w3 ⟨A3, c3, rfl, e1, e2, e3, k3⟩
    have HF := Lib.hid (And.intro e1 (And.intro e2 (And.intro e3 ((k2.trans ka).trans k3))))
    clear e1 e2 e3 k3 hl
    go_wp2
    go_ret2
    exact ⟨A3, c3, rfl, HF.out⟩

def EnRel (w : World) (B0 : Nat) (fK : Nat → Int) (F : Nat → Val) (mK : Nat) (H : Int) (x y : Value) (wr : World) : Prop :=
  ∃ (j : Nat) (l : List Int), j ≤ mK ∧ y = .int .i64 j ∧ encA fK F j = some l ∧ wr.ownsRow B0 24 1 x (l.length + 1) ((H :: l).map u64v) ∧ Keep [] w wr

set_option maxHeartbeats 2000000 in
theorem renc_any (w : World) (A B : Option Addr) (n cap nf cb t : Nat) (m : Nat → Nat) (f : Nat → Nat → Int) (k : Int) (F : Nat → Val) (hK : KRow w A n cap m f) (hV : Vals w B nf cb F) (ht : t < 18446744073709551616) :
    Calls Try.prog 11 #[.slice A n cap, .int .i64 k, .slice B nf cb, .int .u64 t] w (EncPost (encE n m f k nf F t) w) := by
  by_cases hP : FindP n m f k
  case neg =>
    rw [show encE n m f k nf F t = (none, 3) from if_neg hP]
    have hf := kof_no w A n cap m f k hK hP
    clear hP hK hV
    go_enter Try.func11, Try.ntmps11
    go_wp2_with fail
    (with_reducible refine hf.mono ?_)
    rintro e w2 ⟨rfl, k2⟩
    go_wp2
    go_ret2
    exact EncPost.no (k2.trans (Keep.alloc _ _))
  obtain ⟨p0, p1, p2, p3⟩ := hP
  obtain ⟨K, rfl⟩ : ∃ K : Nat, k = K := ⟨k.toNat, by omega⟩
  rw [Int.toNat_natCast] at p3
  obtain ⟨b, o, rfl, hb, hc⟩ := hK.cells (by omega)
  obtain ⟨A', c', cj, hI⟩ := hc K (by omega)
  have hf := kof_yes w n cap K (m K) c' b o A' (f K) hK.nc hK.cap (by omega) (by omega) hb cj hI p3
  have hE : encE n m f (K : Int) nf F t = if nf = m K then encO K (m K) (f K) F t else (none, 4) := by
    unfold encE
    rw [if_pos (show FindP n m f (K : Int) from ⟨p0, p1, p2, by rw [Int.toNat_natCast]; exact p3⟩), Int.toNat_natCast]
  rw [hE]
  have hnc := hI.nc
  have hcc := hI.cap
  have hvc := hV.nc
  have hvm := hV.cap
  clear hE hc cj
  generalize m K = mK at *
  generalize f K = fK at *
  by_cases hn : nf = mK
  case neg =>
    rw [if_neg hn]
    have hn1 : ((nf : Int) == mK) = false := by simp; omega
    have hn2 : ((nf : Int) != mK) = true := by simp; omega
    clear hK hV hI p3
    go_enter Try.func11, Try.ntmps11
    go_wp2_with fail
    (with_reducible refine hf.mono ?_)
    rintro e w2 ⟨rfl, k2⟩
    go_wp2
    go_ret2
    exact EncPost.no (k2.trans (Keep.alloc _ _))
  subst hn
  rw [if_pos rfl]
  have hkw := fun W (hk : Keep [] w W) => kindWords_any W A' nf c' fK (hI.keep hk)
  rw [show kwds nf fK = sumF fK nf from if_pos ⟨p3.1, p3.2.1, p3.2.2.1⟩] at hkw
  have hg := sumF_ge fK nf
  have hmk := fun W => rheader_yes K (sumF fK nf) t (by omega) (by omega) p3.2.2.2 ht W
  have hm15 := p3.2.1
  obtain ⟨Q, hQ⟩ : ∃ Q, Q = EncPost (encO K nf fK F t) w := ⟨_, rfl⟩
  rw [← hQ]
  unfold encO at hQ
  have HQ := Lib.hid hQ
  clear hQ
  obtain ⟨H, hH⟩ : ∃ H : Int, H = (hd K (sumF fK nf) t : Nat) := ⟨_, rfl⟩
  rw [← hH] at hmk HQ
  clear hH hg
  generalize sumF fK nf = s at *
  have HKW := Lib.hid hkw
  have HI := Lib.hid hI
  have HV := Lib.hid hV
  clear hkw hI hV hK p3
  go_enter Try.func11, Try.ntmps11
  go_wp2_with fail
  (with_reducible refine hf.mono ?_)
  rintro e w2 ⟨rfl, k2⟩
  have ka : Keep [] w2 (w2.alloc (.cells #[.slice A' nf c'] 47)) := Keep.alloc _ _
  have HB := Lib.hid (Blk.new w2 47 #[.slice A' nf c'])
  have HK1 := Lib.hid (k2.trans ka)
  have hkw := HKW.out _ HK1.out
  clear k2 ka
  go_wp2_with fail
  (with_reducible refine hkw.mono ?_)
  rintro e w3 ⟨rfl, k3⟩
  clear hkw
  go_wp2_with fail
  (with_reducible refine (hmk _).mono ?_)
  rintro e w4 ⟨rfl, rfl⟩
  have HB3 := Lib.hid (Blk.new w3 24 #[u64v H])
  have HK3 := Lib.hid (HK1.out.trans k3)
  have HBK := Lib.hid (HB.out.keep k3 (by simp))
  have hsz3 : w2.heap.size < w3.heap.size := (HB.out.keep k3 (by simp)).lt
  clear k3 hmk
  obtain ⟨ii, hii, hz0, hz1, hz2⟩ := info_of u64parts
  go_wp2_with fail
  go_loopw [12, 39] (fun x y wr => EnRel w3 w3.heap.size fK F nf H x y wr) (fun _ y _ => nf - (intOf y).toNat)
  case atStart => exact ⟨0, [], by omega, rfl, rfl, owns_one HB3.out (Nat.le_refl _), Keep.alloc _ _⟩
  case round =>
  obtain ⟨j, l, hj, rfl, hl, hown, hK1⟩ := hrel
  obtain ⟨Av, cv, hv, e1, e2, e3⟩ := owns_wd (l := H :: l) hown
  rw [show (H :: l).length = l.length + 1 from rfl] at hv e1
  subst hv
  have HWV := Lib.hid (And.intro e1 (And.intro e2 e3))
  clear e1 e2 e3
  by_cases hlt : j < nf
  case neg =>
    obtain rfl : j = nf := by omega
    have HH := Lib.hid (And.intro hl (And.intro hown hK1))
    clear hl hown hK1
    go_wp2
    rw [HQ.out, HH.out.1]
    exact ⟨Av, cv, rfl, HWV.out.1, HWV.out.2.1, HWV.out.2.2, HK3.out.trans HH.out.2.2⟩
  have hK0 := HK3.out.trans hK1
  obtain ⟨bA, oA, rfl, hbA, hcA⟩ := HI.out.cells (by omega)
  obtain ⟨bB, oB, rfl, hbB, hcB⟩ := HV.out.cells (by omega)
  have cA := (hK0.cell (p := ⟨bA, _, none⟩) hbA (by simp)).trans (hcA j hlt)
  obtain ⟨q0, q1, q2, q3, q4⟩ := hcB j hlt
  have c0 := (hK0.cell (p := ⟨bB, _, none⟩) hbB (by simp)).trans q0
  have c1 := (hK0.cell (p := ⟨bB, _, none⟩) hbB (by simp)).trans q1
  have c2 := (hK0.cell (p := ⟨bB, _, none⟩) hbB (by simp)).trans q2
  have c3 := (hK0.cell (p := ⟨bB, _, none⟩) hbB (by simp)).trans q3
  have c4 := (hK0.cell (p := ⟨bB, _, none⟩) hbB (by simp)).trans q4
  have cK := ((HBK.out.keep hK1 (by simp)).cell 0).trans (show _ = some (Value.slice (some ⟨bA, oA, none⟩) nf c') from rfl)
  have hvw : ∀ W, Calls Try.prog 24 #[.int .i64 (fK j), .agg #[.int .i64 (F j).K, .int .i64 (F j).n, .int .u64 (F j).p, .int .u64 (F j).q, .int .i64 (F j).r]] W (WPost (wordsV (fK j) (F j)) W) := fun W => rvwords_any _ _ _ _ _ _ W
  have hnext : encA fK F (j + 1) = (wordsV (fK j) (F j)).map fun x => l ++ x := by simp only [encA]; rw [hl]; rfl
  have hstop : encA fK F (j + 1) = none → encA fK F nf = none := fun hn => encA_stop hlt hn
  have hlb : l.length ≤ 30 := by
    have := encA_len hl
    have := sumF_le fK j
    omega
  obtain ⟨x, hx⟩ : ∃ x, wordsV (fK j) (F j) = x := ⟨_, rfl⟩
  have hxl : (x.getD []).length ≤ 2 := by
    rw [← hx]; exact words_le _ _
  rw [hx] at hvw hnext
  have HN := Lib.hid (And.intro hnext (And.intro (fun (e : x = none) => hstop (by rw [hnext, e]; rfl)) (And.intro hown hK1)))
  have hsr : w3.heap.size ≤ wr.heap.size := hK1.size
  clear hx hnext hstop hown hcA hcB hl q0 q1 q2 q3 q4 hK0 hK1 HWV
  generalize fK j = fj at *
  generalize (F j).K = v0 at *
  generalize (F j).n = v1 at *
  generalize (F j).p = v2 at *
  generalize (F j).q = v3 at *
  generalize (F j).r = v4 at *
  unfold WPost at hvw
  obtain ⟨n, hn⟩ : ∃ n, (x.getD []).length = n := ⟨_, rfl⟩
  obtain ⟨i1, hi1⟩ : ∃ i1, x.isSome = i1 := ⟨_, rfl⟩
  rw [hn] at hxl
  have hvw' : ∀ W, Calls Try.prog 24 #[.int .i64 fj, .agg #[.int .i64 v0, .int .i64 v1, .int .u64 v2, .int .u64 v3, .int .i64 v4]] W (fun e w' => ∃ A, e = .returned (.tuple #[.slice A n n, .bool i1]) ∧ Wd w' A (x.getD []) ∧ Keep [] W w') := by
    intro W
    have := hvw W
    rwa [hn, hi1] at this
  have HH := Lib.hid (And.intro hn hi1)
  have kv : Keep [] wr (wr.alloc (.cells #[.int .i64 v0, .int .i64 v1, .int .u64 v2, .int .u64 v3, .int .i64 v4] 26)) := Keep.alloc _ _
  have cAv := (kv.cell (p := ⟨bA, _, none⟩) (Nat.lt_of_lt_of_le hbA (by have := HK3.out.size; omega)) (by simp)).trans cA
  have cKv := (kv.cell (p := ⟨w2.heap.size, 0, none⟩) (by show w2.heap.size < _; omega) (by simp)).trans cK
  clear hvw hn hi1
  go_upto_region 10 with fail
  go_cut [15, 16, 39] from 39 to 59 (fun s15 s16 s39 wx => ∃ A, s39 = .int .i64 j ∧ s15 = .slice A n n ∧ s16 = .bool i1 ∧ Wd wx A (x.getD []) ∧ Keep [] wr wx)
  case first =>
    go_wp2_with fail
    go_region_with (go_at_call 24; refine (hvw' _).mono ?_; rintro e w4 ⟨A4, rfl, hW4, k4⟩)
    all_goals
      go_wp2_with fail
      go_meet
      exact ⟨A4, rfl, rfl, rfl, (by first | exact hW4 | exact hW4.keep (Keep.drew _)), kv.trans (by repeat (first | exact k4 | (with_reducible refine Keep.trans ?_ (Keep.drew _)) | (with_reducible refine Keep.trans (Keep.drew _) ?_)))⟩
  case rest =>
  obtain ⟨A4, rfl, rfl, rfl, hW4, k4⟩ := hcut
  obtain ⟨hnext, hstop, hown, hK1⟩ := HN.out
  obtain ⟨hn, hi1⟩ := HH.out
  cases i1 with
  | false =>
    have hx : x = none := by cases x; rfl; simp at hi1
    have HD := Lib.hid (And.intro (hstop hx) (HK3.out.trans (hK1.trans k4)))
    clear hnext hstop hown hn hi1 hW4 k4 hx cA c0 c1 c2 c3 c4 cK hvw' HH HN kv cAv cKv hK1
    go_wp2_with fail
    rw [HQ.out, HD.out.1]
    exact EncPost.no HD.out.2
  | true =>
    obtain ⟨y, rfl⟩ : ∃ y, x = some y := by cases x; simp at hi1; exact ⟨_, rfl⟩
    simp only [Option.getD_some] at hn hW4
    have HO := Lib.hid (owns_kept hown k4)
    have HW := Lib.hid hW4
    have HE := Lib.hid (And.intro hnext (And.intro hn (hK1.trans k4)))
    have hsz : w3.heap.size ≤ wc.heap.size := (hK1.trans k4).size
    clear hnext hstop hown hn hi1 hW4 k4 cA c0 c1 c2 c3 c4 cK hvw' HH HN hK1 kv cAv cKv
    go_wp2_with (at_builtin; refine wpList_append_src rfl (.tmp 56) (.tmp 57) 29 rfl w3.heap.size 24 ii (.int .u64 0) 1 8 Try.underlying29 hii hz0 hz1 hz2 rfl (by omega) (.slice Av (l.length + 1) cv) (l.length + 1) ((H :: l).map u64v) rfl HO.out A4 n n (y.map u64v) rfl ?c1 ?c2 HW.out.news ?c3 ?c4 ?c5 hsz ?_)
    case c1 => simp [HE.out.2.1]
    case c2 => intro e; exact HW.out.len0 e HE.out.2.1
    case c3 => intro u hu; simp at hu; obtain ⟨z, _, rfl⟩ := hu; rfl
    case c4 => unfold maxLen; omega
    case c5 => omega
    intro v' w'' hown2 hgrow
    have hk2 := grown_keep HE.out.2.2 (Nat.le_refl _) HO.out hgrow
    have e1 : (H :: (l ++ y)).map u64v = u64v H :: (l.map u64v ++ y.map u64v) := by simp
    have e2 : (l ++ y).length + 1 = l.length + 1 + n := by rw [List.length_append, HE.out.2.1]; omega
    have hown3 : w''.ownsRow w3.heap.size 24 1 v' ((l ++ y).length + 1) ((H :: (l ++ y)).map u64v) := by rw [e1, e2]; exact hown2
    have HF := Lib.hid (And.intro hown3 (And.intro hk2 HE.out.1))
    clear hown2 hown3 hk2 hgrow e1 e2
    go_wp2
    go_roundw
    case rel => exact ⟨j + 1, l ++ y, by omega, by go_num, HF.out.2.2, HF.out.1, HF.out.2.1⟩
    case measure => simp [intOf]; omega

end Go.Proofs.Ytbmnhngkmokklaa
