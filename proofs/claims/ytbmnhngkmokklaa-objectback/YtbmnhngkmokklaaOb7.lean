/-
  The document's twin of Decode: the same answer. No conditions but what is in memory.
-/
import Derived.Test.YtbmnhngkmokklaaOb6
namespace Go.Proofs.Ytbmnhngkmokklaa
open Go.RowKit Go.Flo Go.Bit
set_option maxRecDepth 100000

def RdRel (w : World) (B0 : Nat) (fK : Nat → Int) (W : List Int) (mK : Nat) (x y : Value) (wr : World) : Prop :=
  ∃ (j : Nat) (L : List Val), j ≤ mK ∧ y = .int .i64 j ∧ decA fK W j = some L ∧ wr.ownsRow B0 26 5 x L.length (rowV L) ∧ Keep [] w wr

set_option maxHeartbeats 1000000 in
theorem rdec_any (w : World) (A B : Option Addr) (n cap cb : Nat) (m : Nat → Nat) (f : Nat → Nat → Int) (W : List Int) (hK : KRow w A n cap m f) (hW : Wd w B W) (hr : ∀ y ∈ W, 0 ≤ y ∧ y < 18446744073709551616) (hl : W.length ≤ cb) (hcb : cb ≤ 9223372036854775807) :
    Calls Try.prog 16 #[.slice A n cap, .slice B W.length cb] w (DecPost (decE n m f W) w) := by
  match W, hW, hr, hl with
  | [], hW, hr, hl =>
    show Calls _ _ _ _ (DecPost decNo w)
    rw [show (([] : List Int).length) = 0 from rfl]
    clear hW hr hl hK
    go_enter Try.func16, Try.ntmps16
    go_wp2
    (try simp only [Exit.inBlock, Exit.then])
    refine bodyPost_ret (results_tmp4 rfl _ _ _) rfl ?_
    exact DecPost.no (Keep.refl _ _)
  | h :: W0, hW, hr, hl =>
  have hh := hr h (by simp)
  obtain ⟨x, rfl⟩ : ∃ x : Nat, h = x := ⟨h.toNat, by omega⟩
  have hx : x < 18446744073709551616 := by omega
  have hE : decE n m f ((x : Int) :: W0) = decH n m f ((x : Int) :: W0) x := by
    show decH n m f ((x : Int) :: W0) ((x : Int)).toNat = _
    rw [Int.toNat_natCast]
  rw [hE]
  clear hE hh
  obtain ⟨W, hWe⟩ : ∃ W, W = (x : Int) :: W0 := ⟨_, rfl⟩
  rw [← hWe] at hW hr hl ⊢
  have hN0 : 0 < W.length := by rw [hWe]; simp
  obtain ⟨b, o, rfl, hb, hc⟩ := hW.cells hN0
  have c0 : w.cell? ⟨b, o, none⟩ = some (.int .u64 (x : Nat)) := by
    have := hc 0 hN0
    rw [hWe] at this
    exact this
  clear hc hWe
  by_cases hH : IsH x
  case neg =>
    have hp := rparse_no x hx hH
    unfold noneV at hp
    rw [show decH n m f W x = decNo from if_neg (fun e => hH e.1)]
    generalize W.length = N at *
    have t0 : (0 : Int) < (N : Int) := by omega
    have t1 : ((N : Int) == 0) = false := by simp; omega
    clear hW hr hK hH
    go_enter Try.func16, Try.ntmps16
    go_wp2_with fail
    (with_reducible refine (hp _).mono ?_)
    rintro e w2 ⟨rfl, rfl⟩
    go_wp2
    (try simp only [Exit.inBlock, Exit.then])
    refine bodyPost_ret (results_tmp4 rfl _ _ _) rfl ?_
    exact DecPost.no (Keep.refl _ _)
  have hp := rparse_yes x hx hH
  have hm5 : getN x 4 5 ≤ 16 := hH.1.2
  unfold partsV at hp
  have hk16 := getN_lt x 0 4
  have hR : decH n m f W x = if FindP n m f (getN x 0 4 : Nat) ∧ sumF (f (getN x 0 4)) (m (getN x 0 4)) = getN x 4 5 ∧ getN x 4 5 ≤ W.length then decK (getN x 0 4) (m (getN x 0 4)) (f (getN x 0 4)) W (getN x 9 32) else decNo := by
    unfold decH
    by_cases h2 : FindP n m f (getN x 0 4 : Nat) ∧ sumF (f (getN x 0 4)) (m (getN x 0 4)) = getN x 4 5 ∧ getN x 4 5 ≤ W.length
    · rw [if_pos h2, if_pos ⟨hH, h2⟩]
    · rw [if_neg h2, if_neg (fun e => h2 e.2)]
  rw [hR]
  clear hR hH
  generalize getN x 0 4 = k at *
  generalize getN x 4 5 = q at *
  generalize getN x 9 32 = ep at *
  by_cases hP : FindP n m f (k : Int)
  case neg =>
    rw [if_neg (fun e => hP e.1)]
    have hf := fun W (hk : Keep [] w W) => kof_no W A n cap m f k (hK.keep hk) hP
    generalize W.length = N at *
    have t0 : (0 : Int) < (N : Int) := by omega
    have t1 : ((N : Int) == 0) = false := by simp; omega
    have HF := Lib.hid hf
    clear hW hr hK hP hf
    go_enter Try.func16, Try.ntmps16
    go_wp2_with fail
    (with_reducible refine (hp _).mono ?_)
    rintro e w2 ⟨rfl, rfl⟩
    have hf := HF.out _ (Keep.refl _ _)
    go_wp2_with fail
    (with_reducible refine hf.mono ?_)
    rintro e w3 ⟨rfl, k3⟩
    go_wp2
    (try simp only [Exit.inBlock, Exit.then])
    refine bodyPost_ret (results_tmp4 rfl _ _ _) rfl ?_
    exact DecPost.no (k3.trans (Keep.alloc _ _))
  obtain ⟨p0, p1, p2, p3⟩ := hP
  rw [Int.toNat_natCast] at p3
  obtain ⟨bK, oK, rfl, hbK, hcK⟩ := hK.cells (by omega)
  obtain ⟨A', c', cj, hI⟩ := hcK k (by omega)
  have hnck := hK.nc
  have hcck := hK.cap
  have hf := fun X (hk : Keep [] w X) => kof_yes X n cap k (m k) c' bK oK A' (f k) hnck hcck (by omega) (by omega) (Nat.lt_of_lt_of_le hbK hk.size) ((hk.cell (p := ⟨bK, _, none⟩) hbK (by simp)).trans cj) (hI.keep hk) p3
  have hkw := fun X (hk : Keep [] w X) => kindWords_any X A' (m k) c' (f k) (hI.keep hk)
  rw [show kwds (m k) (f k) = sumF (f k) (m k) from if_pos ⟨p3.1, p3.2.1, p3.2.2.1⟩] at hkw
  have hR : (if FindP n m f (k : Int) ∧ sumF (f k) (m k) = q ∧ q ≤ W.length then decK k (m k) (f k) W ep else decNo) = if sumF (f k) (m k) = q ∧ q ≤ W.length then decK k (m k) (f k) W ep else decNo := by
    by_cases h2 : sumF (f k) (m k) = q ∧ q ≤ W.length
    · rw [if_pos h2, if_pos ⟨⟨p0, p1, p2, by rw [Int.toNat_natCast]; exact p3⟩, h2⟩]
    · rw [if_neg h2, if_neg (fun e => h2 e.2)]
  rw [hR]
  clear hR hcK cj p0 p1 p2
  generalize m k = mK at *
  generalize f k = fK at *
  by_cases c1 : sumF fK mK = q
  case neg =>
    rw [if_neg (fun e => c1 e.1)]
    generalize sumF fK mK = s at *
    generalize W.length = N at *
    have t0 : (0 : Int) < (N : Int) := by omega
    have t1 : ((N : Int) == 0) = false := by simp; omega
    have t2 : ((s : Int) == q) = false := by simp; omega
    have t3 : ((s : Int) != q) = true := by simp; omega
    have HF := Lib.hid hf
    have HKW := Lib.hid hkw
    clear hW hr hK hf hkw hI p3 c1
    go_enter Try.func16, Try.ntmps16
    go_wp2_with fail
    (with_reducible refine (hp _).mono ?_)
    rintro e w2 ⟨rfl, rfl⟩
    have hf := HF.out _ (Keep.refl _ _)
    go_wp2_with fail
    (with_reducible refine hf.mono ?_)
    rintro e w3 ⟨rfl, k3⟩
    have ka : Keep [] w3 (w3.alloc (.cells #[.slice A' mK c'] 47)) := Keep.alloc _ _
    have hkw := HKW.out _ (k3.trans ka)
    go_wp2_with fail
    (with_reducible refine hkw.mono ?_)
    rintro e w4 ⟨rfl, k4⟩
    go_wp2
    (try simp only [Exit.inBlock, Exit.then])
    refine bodyPost_ret (results_tmp4 rfl _ _ _) rfl ?_
    exact DecPost.no ((k3.trans ka).trans k4)
  subst c1
  by_cases c2 : sumF fK mK ≤ W.length
  case neg =>
    rw [if_neg (fun e => c2 e.2)]
    generalize sumF fK mK = s at *
    generalize W.length = N at *
    have t0 : (0 : Int) < (N : Int) := by omega
    have t1 : ((N : Int) == 0) = false := by simp; omega
    have t2 : ((s : Int) == s) = true := by simp
    have t3 : ((s : Int) != s) = false := by simp
    have t4 : (N : Int) < (s : Int) := by omega
    have HF := Lib.hid hf
    have HKW := Lib.hid hkw
    clear hW hr hK hf hkw hI p3 c2
    go_enter Try.func16, Try.ntmps16
    go_wp2_with fail
    (with_reducible refine (hp _).mono ?_)
    rintro e w2 ⟨rfl, rfl⟩
    have hf := HF.out _ (Keep.refl _ _)
    go_wp2_with fail
    (with_reducible refine hf.mono ?_)
    rintro e w3 ⟨rfl, k3⟩
    have ka : Keep [] w3 (w3.alloc (.cells #[.slice A' mK c'] 47)) := Keep.alloc _ _
    have hkw := HKW.out _ (k3.trans ka)
    go_wp2_with fail
    (with_reducible refine hkw.mono ?_)
    rintro e w4 ⟨rfl, k4⟩
    go_wp2
    (try simp only [Exit.inBlock, Exit.then])
    refine bodyPost_ret (results_tmp4 rfl _ _ _) rfl ?_
    exact DecPost.no ((k3.trans ka).trans k4)
  rw [if_pos ⟨rfl, c2⟩]
  have hm15 := p3.2.1
  have hnc := hI.nc
  have hcc := hI.cap
  have t4 : ¬ (W.length : Int) < (sumF fK mK : Nat) := by omega
  have t0 : (0 : Int) < (W.length : Int) := by omega
  have t1 : ((W.length : Int) == 0) = false := by
    have : ¬ W.length = 0 := by omega
    simpa using this
  have HFT := Lib.hid (show ∀ i, i < mK → sumF fK (i + 1) ≤ W.length from fun i hi => Nat.le_trans (sumF_mono fK (by omega)) c2)
  have HM := Lib.hid p3
  have HI := Lib.hid hI
  have HW := Lib.hid hW
  have HR := Lib.hid hr
  have HF := Lib.hid hf
  have HKW := Lib.hid hkw
  obtain ⟨Q, hQ⟩ : ∃ Q, Q = DecPost (decK k mK fK W ep) w := ⟨_, rfl⟩
  rw [← hQ]
  unfold decK at hQ
  have HQ := Lib.hid hQ
  clear c2 p3 hI hW hr hf hkw hQ hK
  obtain ⟨N, hN⟩ : ∃ N, W.length = N := ⟨_, rfl⟩
  rw [hN] at hl t4 t0 t1 hN0 ⊢
  have HN := Lib.hid hN
  clear hN
  generalize sumF fK mK = s at *
  have t2 : ((s : Int) == s) = true := by simp
  have t3 : ((s : Int) != s) = false := by simp
  have t5 : decide (N < s) = false := by simp; omega
  go_enter Try.func16, Try.ntmps16
  go_wp2_with fail
  (with_reducible refine (hp _).mono ?_)
  rintro e w2 ⟨rfl, rfl⟩
  have hf := HF.out _ (Keep.refl _ _)
  go_wp2_with fail
  (with_reducible refine hf.mono ?_)
  rintro e w3 ⟨rfl, k3⟩
  have ka : Keep [] w3 (w3.alloc (.cells #[.slice A' mK c'] 47)) := Keep.alloc _ _
  have hB := Blk.new w3 47 #[.slice A' mK c']
  have hkw := HKW.out _ (k3.trans ka)
  go_wp2_with fail
  (with_reducible refine hkw.mono ?_)
  rintro e w4 ⟨rfl, k4⟩
  have HB := Lib.hid (hB.keep k4 (by simp))
  have HK4 := Lib.hid ((k3.trans ka).trans k4)
  have cK := (HB.out.cell 0).trans (show _ = some (Value.slice A' mK c') from rfl)
  clear hf hkw hB ka k3 k4 HF HKW hp
  go_wp2_with fail
  clear cK
  go_loopw [14, 58] (fun x y wr => RdRel w4 w4.heap.size fK W mK x y wr) (fun _ y _ => mK - (intOf y).toNat)
  case atStart => exact ⟨0, [], by omega, rfl, rfl, ⟨by simp [rowV], Or.inl ⟨rfl, rfl⟩⟩, Keep.refl _ _⟩
  case round =>
  obtain ⟨j, L, hj, rfl, hd, hown, hK1⟩ := hrel
  obtain ⟨Av, cv, hv, hvals⟩ := owns_vals hown
  subst hv
  have HV := Lib.hid hvals
  clear hvals
  by_cases hlt : j < mK
  case neg =>
    obtain rfl : j = mK := by omega
    have HH := Lib.hid (And.intro hd (And.intro hown hK1))
    clear hd hown hK1
    go_wp2
    (try simp only [Exit.inBlock, Exit.then])
    refine bodyPost_ret (results_tmp4 rfl _ _ _) rfl ?_
    rw [HQ.out, HH.out.1]
    exact ⟨Av, cv, rfl, HV.out, HK4.out.trans HH.out.2.2⟩
  have hK0 := HK4.out.trans hK1
  obtain ⟨bA, oA, rfl, hbA, hcA⟩ := HI.out.cells (by omega)
  have cA := (hK0.cell (p := ⟨bA, _, none⟩) hbA (by simp)).trans (hcA j hlt)
  have cK := ((HB.out.keep hK1 (by simp)).cell 0).trans (show _ = some (Value.slice (some ⟨bA, oA, none⟩) mK c') from rfl)
  have hNl : sumF fK (j + 1) ≤ W.length := HFT.out j hlt
  have hsucc : sumF fK (j + 1) = sumF fK j + fw (fK j) := rfl
  have hg := sumF_ge fK j
  have hsl := sumF_le fK j
  have hof : ∀ X, Keep [] wr X → Calls Try.prog 26 #[.agg #[.slice (some ⟨bA, oA, none⟩) mK c'], .int .i64 j] X fun e w' => e = .returned (.int .i64 (sumF fK j : Nat)) ∧ Keep [] X w' := by
    intro X hX
    have := roffset_any X _ mK c' fK j (HI.out.keep (hK0.trans hX))
    rw [show kwds mK fK = sumF fK mK from if_pos ⟨HM.out.1, HM.out.2.1, HM.out.2.2.1⟩] at this
    have h2 := sumF_ge fK mK
    rwa [show offZ (sumF fK mK) mK fK (j : Int) = ((sumF fK j : Nat) : Int) by unfold offZ; rw [if_neg (by omega), Int.toNat_natCast]] at this
  have hvo : ∀ X, Keep [] wr X → Calls Try.prog 31 #[.int .i64 (fK j), .slice (some ⟨b, o + sumF fK j, none⟩) (fw (fK j)) (cb - sumF fK j)] X (OPost (ofV (fK j) (seg fK W j)) X) := by
    intro X hX
    have hsg : (seg fK W j).length = fw (fK j) := by unfold seg; rw [List.length_take, List.length_drop]; omega
    have := rvof_any (fK j) (some ⟨b, o + sumF fK j, none⟩) (cb - sumF fK j) (seg fK W j) (fun y hy => HR.out y (List.mem_of_mem_drop (List.mem_of_mem_take hy))) (by rw [hsg]; have := HN.out; omega) (by omega) X ((HW.out.part (sumF fK j) (fw (fK j)) (by omega)).keep (hK0.trans hX))
    rwa [hsg] at this
  have hnext : decA fK W (j + 1) = (ofV (fK j) (seg fK W j)).map fun x => L ++ [x] := by simp only [decA]; rw [hd]; rfl
  have hstop : decA fK W (j + 1) = none → decA fK W mK = none := fun hn => decA_stop hlt hn
  have hLl : L.length = j := decA_len hd
  have hN2 : sumF fK j + fw (fK j) ≤ N := by rw [← HN.out, ← hsucc]; exact hNl
  unfold OPost at hvo
  obtain ⟨x, hx⟩ : ∃ x, ofV (fK j) (seg fK W j) = x := ⟨_, rfl⟩
  rw [hx] at hvo hnext
  have HX := Lib.hid (And.intro hnext (And.intro (fun (e : x = none) => hstop (by rw [hnext, e]; rfl)) (And.intro hown (And.intro hK1 hLl))))
  have hq : (fK j = 2 ∧ fw (fK j) = 2) ∨ (¬ fK j = 2 ∧ fw (fK j) = 1) := by
    unfold fw
    by_cases e : fK j = 2
    · exact Or.inl ⟨e, if_pos e⟩
    · exact Or.inr ⟨e, if_neg e⟩
  have HK0 := Lib.hid hK0
  have hsz4 : w4.heap.size ≤ wr.heap.size := hK1.size
  clear hx hnext hstop hown hcA hd hNl hsucc HV hK0
  generalize sumF fK j = s1 at *
  generalize fw (fK j) = q at *
  generalize fK j = fj at *
  have HOF := Lib.hid hof
  have HVO := Lib.hid hvo
  have hsN : s1 < N := by omega
  have hscb : ¬ cb = s1 := by omega
  clear hof hvo hLl hK1
  rcases hq with ⟨hf2, hq2⟩ | ⟨hf2, hq2⟩
  · subst hf2 hq2
    have hm : s1 + 2 - s1 = 2 := by omega
    have hof := HOF.out _ (Keep.refl _ _)
    go_wp2_with fail
    (with_reducible refine hof.mono ?_)
    rintro e w5 ⟨rfl, k5⟩
    have hvo := HVO.out _ k5
    clear hof cA cK
    obtain ⟨ok, hi1⟩ : ∃ ok, x.isSome = ok := ⟨_, rfl⟩
    obtain ⟨Z, hZ⟩ : ∃ Z, x.getD z0 = Z := ⟨_, rfl⟩
    rw [hi1, hZ] at hvo
    have HH := Lib.hid (And.intro hi1 hZ)
    clear hi1 hZ
    obtain ⟨x0, x1, x2, x3, x4⟩ := Z
    dsimp only at hvo
    go_wp2_with fail
    (with_reducible refine hvo.mono ?_)
    rintro e w6 ⟨rfl, k6⟩
    have ka : Keep [] w6 (w6.alloc (.cells #[.int .i64 x0, .int .i64 x1, .int .u64 x2, .int .u64 x3, .int .i64 x4] 26)) := Keep.alloc _ _
    have kb : Keep [] (w6.alloc (.cells #[.int .i64 x0, .int .i64 x1, .int .u64 x2, .int .u64 x3, .int .i64 x4] 26)) ((w6.alloc (.cells #[.int .i64 x0, .int .i64 x1, .int .u64 x2, .int .u64 x3, .int .i64 x4] 26)).alloc (.cells #[.int .i64 x0, .int .i64 x1, .int .u64 x2, .int .u64 x3, .int .i64 x4] 26)) := Keep.alloc _ _
    have kk := (k5.trans k6).trans ka
    obtain ⟨hnext, hstop, hown, hK1, hLl⟩ := HX.out
    obtain ⟨hi, hZ⟩ := HH.out
    clear hvo
    cases ok with
    | false =>
      have hx : x = none := by cases x; rfl; simp at hi
      have HD := Lib.hid (And.intro (hstop hx) (HK0.out.trans kk))
      clear hnext hstop hown hK1 hLl hi hZ hx kk ka kb k5 k6 HX HH HOF HVO
      go_wp2
      (try simp only [Exit.inBlock, Exit.then])
      refine bodyPost_ret (results_tmp4 rfl _ _ _) rfl ?_
      rw [HQ.out, HD.out.1]
      exact DecPost.no HD.out.2
    | true =>
      obtain ⟨y, rfl⟩ : ∃ y, x = some y := by cases x; simp at hi; exact ⟨_, rfl⟩
      simp only [Option.getD_some] at hZ
      subst hZ
      have hnw := five_new (w6.alloc (.cells #[.int .i64 x0, .int .i64 x1, .int .u64 x2, .int .u64 x3, .int .i64 x4] 26)) x0 x1 x2 x3 x4 26
      rw [show (w6.alloc (.cells #[.int .i64 x0, .int .i64 x1, .int .u64 x2, .int .u64 x3, .int .i64 x4] 26)).heap.size = w6.heap.size + 1 by simp] at hnw
      have HNW := Lib.hid hnw
      have HO := Lib.hid (owns_kept hown (kk.trans kb))
      have HE := Lib.hid (And.intro hnext (And.intro hLl (hK1.trans (kk.trans kb))))
      have hsz : w4.heap.size ≤ w6.heap.size := by have := (k5.trans k6).size; omega
      clear hnext hstop hown hK1 hLl hi kk ka kb k5 k6 HX HH HOF HVO hnw
      obtain ⟨ii, hii, hz0, hz1, hz2⟩ := info_of valpart5
      go_wp2_with (at_builtin; refine wpList_append_own_at _ rfl (.tmp 81) (.tmp 83) 23 rfl w4.heap.size 26 ii (.agg #[.int .i64 0, .int .i64 0, .int .u64 0, .int .u64 0, .int .i64 0]) 5 40 Try.underlying23 hii hz0 hz1 hz2 rfl (by omega) (.slice Av L.length cv) L.length (rowV L) rfl HO.out ⟨w6.heap.size + 1, 0, none⟩ 1 1 (cellsV ⟨x0, x1, x2, x3, x4⟩) rfl ?c1 HNW.out ?c3 ?c4 ?c5 ?c6 ?_)
      case c1 => rfl
      case c3 => intro z hz; simp [cellsV] at hz; rcases hz with rfl | rfl | rfl | rfl | rfl <;> rfl
      case c4 => have := HE.out.2.1; unfold maxLen; omega
      case c5 => have := HE.out.2.1; omega
      case c6 => simp; omega
      intro v' w'' hown2 hgrow _ _
      have hk2 := grown_keep HE.out.2.2 (Nat.le_refl _) HO.out hgrow
      rw [← rowV_snoc] at hown2
      have hown3 : w''.ownsRow w4.heap.size 26 5 v' (L ++ [(⟨x0, x1, x2, x3, x4⟩ : Val)]).length (rowV (L ++ [(⟨x0, x1, x2, x3, x4⟩ : Val)])) := by
        rw [List.length_append, HE.out.2.1]
        first | exact hown2 | (rw [HE.out.2.1] at hown2; exact hown2)
      have HF := Lib.hid (And.intro hown3 (And.intro hk2 HE.out.1))
      clear hown2 hown3 hk2 hgrow
      go_wp2
      go_roundw
      case rel => exact ⟨j + 1, L ++ [(⟨x0, x1, x2, x3, x4⟩ : Val)], by omega, by go_num, HF.out.2.2, HF.out.1, HF.out.2.1⟩
      case measure => simp [intOf]; omega
  · subst hq2
    have hne : (fj == 2) = false := by simpa using hf2
    have hm : s1 + 1 - s1 = 1 := by omega
    have hof := HOF.out _ (Keep.refl _ _)
    go_wp2_with fail
    (with_reducible refine hof.mono ?_)
    rintro e w5 ⟨rfl, k5⟩
    have hvo := HVO.out _ k5
    clear hof cA cK
    obtain ⟨ok, hi1⟩ : ∃ ok, x.isSome = ok := ⟨_, rfl⟩
    obtain ⟨Z, hZ⟩ : ∃ Z, x.getD z0 = Z := ⟨_, rfl⟩
    rw [hi1, hZ] at hvo
    have HH := Lib.hid (And.intro hi1 hZ)
    clear hi1 hZ
    obtain ⟨x0, x1, x2, x3, x4⟩ := Z
    dsimp only at hvo
    go_wp2_with fail
    (with_reducible refine hvo.mono ?_)
    rintro e w6 ⟨rfl, k6⟩
    have ka : Keep [] w6 (w6.alloc (.cells #[.int .i64 x0, .int .i64 x1, .int .u64 x2, .int .u64 x3, .int .i64 x4] 26)) := Keep.alloc _ _
    have kb : Keep [] (w6.alloc (.cells #[.int .i64 x0, .int .i64 x1, .int .u64 x2, .int .u64 x3, .int .i64 x4] 26)) ((w6.alloc (.cells #[.int .i64 x0, .int .i64 x1, .int .u64 x2, .int .u64 x3, .int .i64 x4] 26)).alloc (.cells #[.int .i64 x0, .int .i64 x1, .int .u64 x2, .int .u64 x3, .int .i64 x4] 26)) := Keep.alloc _ _
    have kk := (k5.trans k6).trans ka
    obtain ⟨hnext, hstop, hown, hK1, hLl⟩ := HX.out
    obtain ⟨hi, hZ⟩ := HH.out
    clear hvo
    cases ok with
    | false =>
      have hx : x = none := by cases x; rfl; simp at hi
      have HD := Lib.hid (And.intro (hstop hx) (HK0.out.trans kk))
      clear hnext hstop hown hK1 hLl hi hZ hx kk ka kb k5 k6 HX HH HOF HVO
      go_wp2
      (try simp only [Exit.inBlock, Exit.then])
      refine bodyPost_ret (results_tmp4 rfl _ _ _) rfl ?_
      rw [HQ.out, HD.out.1]
      exact DecPost.no HD.out.2
    | true =>
      obtain ⟨y, rfl⟩ : ∃ y, x = some y := by cases x; simp at hi; exact ⟨_, rfl⟩
      simp only [Option.getD_some] at hZ
      subst hZ
      have hnw := five_new (w6.alloc (.cells #[.int .i64 x0, .int .i64 x1, .int .u64 x2, .int .u64 x3, .int .i64 x4] 26)) x0 x1 x2 x3 x4 26
      rw [show (w6.alloc (.cells #[.int .i64 x0, .int .i64 x1, .int .u64 x2, .int .u64 x3, .int .i64 x4] 26)).heap.size = w6.heap.size + 1 by simp] at hnw
      have HNW := Lib.hid hnw
      have HO := Lib.hid (owns_kept hown (kk.trans kb))
      have HE := Lib.hid (And.intro hnext (And.intro hLl (hK1.trans (kk.trans kb))))
      have hsz : w4.heap.size ≤ w6.heap.size := by have := (k5.trans k6).size; omega
      clear hnext hstop hown hK1 hLl hi kk ka kb k5 k6 HX HH HOF HVO hnw
      obtain ⟨ii, hii, hz0, hz1, hz2⟩ := info_of valpart5
      go_wp2_with (at_builtin; refine wpList_append_own_at _ rfl (.tmp 81) (.tmp 83) 23 rfl w4.heap.size 26 ii (.agg #[.int .i64 0, .int .i64 0, .int .u64 0, .int .u64 0, .int .i64 0]) 5 40 Try.underlying23 hii hz0 hz1 hz2 rfl (by omega) (.slice Av L.length cv) L.length (rowV L) rfl HO.out ⟨w6.heap.size + 1, 0, none⟩ 1 1 (cellsV ⟨x0, x1, x2, x3, x4⟩) rfl ?c1 HNW.out ?c3 ?c4 ?c5 ?c6 ?_)
      case c1 => rfl
      case c3 => intro z hz; simp [cellsV] at hz; rcases hz with rfl | rfl | rfl | rfl | rfl <;> rfl
      case c4 => have := HE.out.2.1; unfold maxLen; omega
      case c5 => have := HE.out.2.1; omega
      case c6 => simp; omega
      intro v' w'' hown2 hgrow _ _
      have hk2 := grown_keep HE.out.2.2 (Nat.le_refl _) HO.out hgrow
      rw [← rowV_snoc] at hown2
      have hown3 : w''.ownsRow w4.heap.size 26 5 v' (L ++ [(⟨x0, x1, x2, x3, x4⟩ : Val)]).length (rowV (L ++ [(⟨x0, x1, x2, x3, x4⟩ : Val)])) := by
        rw [List.length_append, HE.out.2.1]
        first | exact hown2 | (rw [HE.out.2.1] at hown2; exact hown2)
      have HF := Lib.hid (And.intro hown3 (And.intro hk2 HE.out.1))
      clear hown2 hown3 hk2 hgrow
      go_wp2
      go_roundw
      case rel => exact ⟨j + 1, L ++ [(⟨x0, x1, x2, x3, x4⟩ : Val)], by omega, by go_num, HF.out.2.2, HF.out.1, HF.out.2.1⟩
      case measure => simp [intOf]; omega
end Go.Proofs.Ytbmnhngkmokklaa
