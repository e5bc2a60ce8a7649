/-
  ObjectParts walked. No conditions but what came in.
-/
import Derived.Test.YtbmnhngkmokklaaOb8
namespace Go.Proofs.Ytbmnhngkmokklaa
open Go.RowKit Go.Flo Go.Bit
set_option maxRecDepth 100000

theorem enc_cases (n : Nat) (m : Nat → Nat) (f : Nat → Nat → Int) (k : Int) (nf : Nat) (F : Nat → Val) (t : Nat) :
    (∃ er, encE n m f k nf F t = (none, er) ∧ er ≠ 0) ∨ ∃ (K : Nat) (l : List Int), k = K ∧ FindP n m f (K : Int) ∧ nf = m K ∧ encA (f K) F (m K) = some l ∧ encE n m f k nf F t = (some (((hd K (sumF (f K) (m K)) t : Nat) : Int) :: l), 0) := by
  unfold encE
  by_cases hP : FindP n m f k
  case neg => rw [if_neg hP]; exact Or.inl ⟨3, rfl, by decide⟩
  rw [if_pos hP]
  obtain ⟨K, rfl⟩ : ∃ K : Nat, k = K := ⟨k.toNat, by have := hP.1; omega⟩
  rw [Int.toNat_natCast]
  by_cases hn : nf = m K
  case neg => rw [if_neg hn]; exact Or.inl ⟨4, rfl, by decide⟩
  rw [if_pos hn]
  unfold encO
  cases hA : encA (f K) F (m K) with
  | none => exact Or.inl ⟨3, rfl, by decide⟩
  | some l => exact Or.inr ⟨K, l, rfl, hP, hn, hA, rfl⟩

theorem fld_enc {n : Nat} {m : Nat → Nat} {f : Nat → Nat → Int} {K : Nat} {F : Nat → Val} {l : List Int} (h : Int) (hP : FindP n m f (K : Int)) (hA : encA (f K) F (m K) = some l) {j : Nat} (hj : j < m K) :
    fldE n m f K j (F j) = (((sumF (f K) j : Nat) : Int), some (seg (f K) (h :: l) j), 0) ∧ (seg (f K) (h :: l) j).length = fw (f K j) := by
  have hs := enc_seg h [] hA j hj
  rw [List.append_nil] at hs
  refine ⟨?_, (words_len hs).1⟩
  unfold fldE
  rw [if_pos hP, Int.toNat_natCast]
  unfold fldO
  rw [if_pos ⟨by omega, by omega⟩, Int.toNat_natCast, hs]

set_option maxHeartbeats 4000000 in
theorem walk_oparts (w : World) (A B : Option Addr) (n cap nf cb t : Nat) (m : Nat → Nat) (f : Nat → Nat → Int) (k : Int) (F : Nat → Val) (hK : KRow w A n cap m f) (hV : Vals w B nf cb F) (ht : t < 18446744073709551616) :
    Calls Try.prog 6 #[.slice A n cap, .int .i64 k, .slice B nf cb, .int .u64 t] w fun e w' => e = .returned (.bool true) ∧ Keep [] w w' := by
  have hlg := light11_any w A n cap m f hK
  by_cases hL : Light11 n m
  case neg =>
    rw [decide_eq_false hL] at hlg
    clear hK hV hL
    go_enter Try.func6, Try.ntmps6
    go_wp2_with fail
    (with_reducible refine hlg.mono ?_)
    rintro e w2 ⟨rfl, k2⟩
    go_wp2_with fail
    (with_reducible refine (awake11_any _).mono ?_)
    rintro e w3 ⟨rfl, k3⟩
    go_wp2
    go_ret
    exact ⟨rfl, k2.trans k3⟩
  rw [decide_eq_true hL] at hlg
  by_cases h40 : 40 < nf
  · have h40' : (40 : Int) < nf := by omega
    clear hK hV hL
    go_enter Try.func6, Try.ntmps6
    go_wp2_with fail
    (with_reducible refine hlg.mono ?_)
    rintro e w2 ⟨rfl, k2⟩
    go_wp2_with fail
    (with_reducible refine (awake11_any _).mono ?_)
    rintro e w3 ⟨rfl, k3⟩
    go_wp2
    go_ret
    exact ⟨rfl, k2.trans k3⟩
  have h40' : ¬ (40 : Int) < nf := by omega
  have h1 := fun X (hk : Keep [] w X) => enc_any X A B n cap nf cb t m f k F (hK.keep hk) (hV.keep hk) ht
  unfold EncPost at h1
  rcases enc_cases n m f k nf F t with ⟨er, hR, her⟩ | ⟨K, l, rfl, hP, hn, hA, hR⟩
  · rw [hR] at h1
    dsimp only at h1
    rw [Option.getD_none, show ([] : List Int).length = 0 from rfl] at h1
    have e1 : (er == 0) = false := by simpa using her
    have e2 : (er != 0) = true := by simpa using her
    have H1 := Lib.hid h1
    clear h1 hK hV hL hR her
    go_enter Try.func6, Try.ntmps6
    go_wp2_with fail
    (with_reducible refine hlg.mono ?_)
    rintro e w2 ⟨rfl, k2⟩
    clear hlg
    have c1 := H1.out _ k2
    go_wp2_with fail
    (with_reducible refine c1.mono ?_)
    rintro e w3 ⟨A3, c3, rfl, _, _, _, k3⟩
    clear c1
    go_wp2_with fail
    (with_reducible refine (awake11_any _).mono ?_)
    rintro e w9 ⟨rfl, k9⟩
    go_wp2
    go_ret
    exact ⟨rfl, (k2.trans k3).trans k9⟩
  rw [hR] at h1
  dsimp only at h1
  rw [Option.getD_some] at h1
  have hlen := encA_len hA
  have hM := hP.2.2.2
  rw [Int.toNat_natCast] at hM
  have hK16 := hP.2.2.1
  have hg := sumF_ge (f K) (m K)
  have hhd := fun W => (rheader_yes K (sumF (f K) (m K)) t (by omega) (by omega) hM.2.2.2 ht W)
  obtain ⟨H, hH⟩ : ∃ H : Int, H = (hd K (sumF (f K) (m K)) t : Nat) := ⟨_, rfl⟩
  rw [← hH] at h1 hhd
  have hfl := fun j (hj : j < nf) X (hk : Keep [] w X) => fld_any X A n cap m f K j (F j).K (F j).n (F j).p (F j).q (F j).r (hK.keep hk)
  have hsg : ∀ j, j < nf → fldE n m f K j (F j) = (((sumF (f K) j : Nat) : Int), some (seg (f K) (H :: l) j), 0) ∧ (seg (f K) (H :: l) j).length = fw (f K j) := fun j hj => fld_enc H hP hA (by omega)
  have hN : (H :: l).length = sumF (f K) nf := by rw [List.length_cons, hlen, hn]
  rw [hN] at h1
  have H1 := Lib.hid h1
  have HHD := Lib.hid hhd
  have HFL := Lib.hid hfl
  have HSG := Lib.hid hsg
  have HV := Lib.hid hV
  have HN := Lib.hid hN
  have h16 : sumF (f K) nf ≤ 16 := by rw [hn]; exact hM.2.2.2
  have HM := Lib.hid (And.intro hM hn)
  have hvc := hV.nc
  have hvm := hV.cap
  clear h1 hhd hfl hsg hN hV hK hL hR hM hP hA hg hlen hH hn
  generalize f K = fK at *
  obtain ⟨N, hNs⟩ : ∃ N, sumF fK nf = N := ⟨_, rfl⟩
  have HNS := Lib.hid hNs
  rw [hNs] at H1 h16
  clear hNs
  go_enter Try.func6, Try.ntmps6
  go_wp2_with fail
  (with_reducible refine hlg.mono ?_)
  rintro e w2 ⟨rfl, k2⟩
  clear hlg
  have c1 := H1.out _ k2
  go_wp2_with fail
  (with_reducible refine c1.mono ?_)
  rintro e w3 ⟨A3, c3, rfl, z1, z2, y3, k3⟩
  clear c1
  have HH := Lib.hid (And.intro y3 (k2.trans k3))
  clear k2 k3 y3
  go_wp2_with fail
  go_loopw [11, 45] (fun x y wr => ∃ j : Nat, j ≤ nf ∧ x = .int .i64 (sumF fK j : Nat) ∧ y = .int .i64 j ∧ Keep [] w3 wr) (fun _ y _ => nf - (RowKit.intOf y).toNat)
  case atStart => exact ⟨0, by omega, rfl, rfl, Keep.refl _ _⟩
  case round =>
  obtain ⟨j, hj, rfl, rfl, hd⟩ := hrel
  by_cases hlt : j < nf
  case neg =>
    obtain rfl : j = nf := by omega
    obtain ⟨b', o', rfl, hb', hc'⟩ := (HH.out.1.keep hd).cells (by rw [HN.out]; have := sumF_ge fK j; omega)
    have c0 : wr.cell? ⟨b', o', none⟩ = some (.int .u64 H) := hc' 0 (by rw [HN.out]; have := sumF_ge fK j; omega)
    have g0 : ∀ x : KW wr, _ := fun x => KW.cell c0 x
    have hhd := fun W => (HHD.out W)
    have hs2 : sumF fK (m K) = N := by rw [← HM.out.2]; exact HNS.out
    rw [hs2] at hhd
    have G1 := Lib.hid (fun x : KW wr => KW.call (x := x) ((hhd x.w).mono fun _ _ ⟨a, b⟩ => ⟨a, b ▸ Keep.refl [] _⟩))
    have G2 := Lib.hid (fun x : KW wr => KW.call (x := x) (awake11_any x.w))
    have hNn : sumF fK j = N := HNS.out
    rw [hNn]
    have e1 : ((N : Int) == N) = true := by simp
    have e2 : (H == H) = true := by simp
    have e3 : (0 : Int) < N := by have := sumF_ge fK j; omega
    have HD := Lib.hid (HH.out.2.trans hd)
    clear hc' c0 hhd hs2 hNn hd
    go_wp2_with fail
    refine wp_region_grow (by kernel_rfl) (by kernel_rfl) ?_
    repeat (first | go_big_quiet_skip | (go_big_quiet_want; go_big_quiet_op; first | go_big_quiet_on | go_big_quiet_call ((first | (go_at_call 19; with_reducible exact G1.out _) | (go_at_call 9; with_reducible exact G2.out _)))))
    refine wpQuiet_nil ?_
    rintro _ ⟨x, rfl⟩
    go_wp2
    go_ret
    exact ⟨rfl, HD.out.trans x.hk⟩
  have hK0 := HH.out.2.trans hd
  obtain ⟨bB, oB, rfl, hbB, hcB⟩ := (HV.out.keep hK0).cells (by omega)
  obtain ⟨d0, d1, d2, d3, d4⟩ := hcB j hlt
  have kv : Keep [] wr (wr.alloc (.cells #[.int .i64 (F j).K, .int .i64 (F j).n, .int .u64 (F j).p, .int .u64 (F j).q, .int .i64 (F j).r] 26)) := Keep.alloc _ _
  have hfl := HFL.out j hlt _ (hK0.trans kv)
  have hsg := HSG.out j hlt
  have hsg1 : fldE n m f K j ⟨(F j).K, (F j).n, (F j).p, (F j).q, (F j).r⟩ = (((sumF fK j : Nat) : Int), some (seg fK (H :: l) j), 0) := hsg.1
  rw [hsg1] at hfl
  unfold FldPost at hfl
  dsimp only at hfl
  rw [Option.getD_some, hsg.2] at hfl
  have hq : fw (fK j) ≤ 2 ∧ 1 ≤ fw (fK j) := by unfold fw; split <;> omega
  have hsucc : sumF fK (j + 1) = sumF fK j + fw (fK j) := rfl
  have hle : sumF fK (j + 1) ≤ N := by rw [← HNS.out]; exact sumF_mono fK (by omega)
  have HQ := Lib.hid (And.intro hsucc hsg.2)
  have HK0 := Lib.hid (hd.trans kv)
  have HSE := Lib.hid (show ∀ i, i < fw (fK j) → (H :: l).getD (sumF fK j + i) 0 = (seg fK (H :: l) j).getD i 0 from fun i hi => by
    unfold seg
    have h2 : i < (H :: l).length - sumF fK j := by
      have := HN.out
      rw [HNS.out] at this
      omega
    simp only [List.getD_eq_getElem?_getD, List.getElem?_take, List.getElem?_drop, hi, if_true])
  rw [hsucc] at hle
  clear hsg hsg1 hcB hsucc hK0 kv
  obtain ⟨s, hss⟩ : ∃ s, sumF fK j = s := ⟨_, rfl⟩
  obtain ⟨q, hqq⟩ : ∃ q, fw (fK j) = q := ⟨_, rfl⟩
  rw [hss, hqq] at hfl hle HSE
  rw [hqq] at hq
  rw [hss, hqq] at HQ
  rw [hss]
  generalize (F j).K = v0 at *
  generalize (F j).n = v1 at *
  generalize (F j).p = v2 at *
  generalize (F j).q = v3 at *
  generalize (F j).r = v4 at *
  have e0 : ((s : Int) == s) = true := by simp
  have e1 : ((s : Int) != s) = false := by simp
  have e2 : ¬ (N : Int) < (s : Int) + (q : Int) := by omega
  have HS := Lib.hid (And.intro hss hqq)
  have hd9 := hd
  clear hss hqq hd
  go_wp2_with fail
  (with_reducible refine hfl.mono ?_)
  rintro e w5 ⟨A5, c5, rfl, z3, z4, y5, k5⟩
  have HH5 := Lib.hid (And.intro y5 (HK0.out.trans k5))
  clear hfl y5 k5 d0 d1 d2 d3 d4 hd9
  go_wp2_with fail
  go_loopw [77] (fun x wz => ∃ i : Nat, i ≤ q ∧ x = .int .i64 i ∧ Keep [] w5 wz) (fun x _ => q - (RowKit.intOf x).toNat)
  case atStart => exact ⟨0, by omega, rfl, Keep.refl _ _⟩
  case round =>
  obtain ⟨i, hi, rfl, hd2⟩ := hrel
  by_cases hit : i < q
  case neg =>
    obtain rfl : i = q := by omega
    have HD := Lib.hid (HH5.out.2.trans hd2)
    have HS2 := Lib.hid (HQ.out.1)
    clear hd2
    go_wp2
    go_roundw
    case rel => exact ⟨j + 1, by omega, by rw [HS2.out]; go_num, by go_num, HD.out⟩
    case measure => simp [RowKit.intOf]; omega
  obtain ⟨b3, o3, rfl, hb3, hc3⟩ := ((HH.out.1.keep (HH5.out.2.trans hd2))).cells (by rw [HN.out, HNS.out]; omega)
  obtain ⟨b5, o5, rfl, hb5, hc5⟩ := (HH5.out.1.keep hd2).cells (by rw [HQ.out.2]; omega)
  have ca := hc3 (s + i) (by rw [HN.out, HNS.out]; omega)
  have cb' := hc5 i (by rw [HQ.out.2]; exact hit)
  rw [HSE.out i hit] at ca
  obtain ⟨y, hy⟩ : ∃ y : Int, y = (seg fK (H :: l) j).getD i 0 := ⟨_, rfl⟩
  rw [← hy] at ca cb'
  have e5 : (y == y) = true := by simp
  have e6 : (y != y) = false := by simp
  have e7 : (s : Int) + (i : Int) < N := by omega
  have e8 : (0 : Int) ≤ (s : Int) + (i : Int) := by omega
  have e9 : ((s : Int) + (i : Int)).toNat = s + i := by omega
  clear hy hc3 hc5
  go_wp2
  go_quiet (fail)
  go_wp2
  go_roundw
  case rel => exact ⟨i + 1, by omega, by go_num, hd2.trans (Keep.dr (Dr.drewN _ _))⟩
  case measure => simp [RowKit.intOf]; omega
end Go.Proofs.Ytbmnhngkmokklaa
