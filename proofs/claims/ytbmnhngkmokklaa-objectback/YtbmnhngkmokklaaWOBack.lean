/-
  ObjectBack walked. No conditions but what came in.
-/
import Derived.Test.YtbmnhngkmokklaaObk
namespace Go.Proofs.Ytbmnhngkmokklaa
open Go.RowKit Go.Flo Go.Bit
set_option maxRecDepth 100000

theorem u64sz : (Try.prog.info? 24).map (·.size) = some 1 := by kernel_rfl

set_option maxHeartbeats 8000000 in
theorem walk_oback (w : World) (A B C : Option Addr) (n cap nf cb nm cm t : Nat) (m : Nat → Nat) (f : Nat → Nat → Int) (k i v0 v1 v2 v3 v4 : Int) (F : Nat → Val) (M : List Int) (hK : KRow w A n cap m f) (hV : Vals w B nf cb F) (hov : ∀ j, j < nf → VOk (F j)) (ht : t < 18446744073709551616)
    (hvo : VOk ⟨v0, v1, v2, v3, v4⟩) (hW : Wd w C M) (hr : ∀ y ∈ M, 0 ≤ y ∧ y < 18446744073709551616) (hnm : M.length = nm) (hcm : nm ≤ cm) (hcmx : cm ≤ 9223372036854775807) :
    Calls Try.prog 5 #[.slice A n cap, .int .i64 k, .slice B nf cb, .int .u64 t, .int .i64 i, .agg #[.int .i64 v0, .int .i64 v1, .int .u64 v2, .int .u64 v3, .int .i64 v4], .slice C nm cm] w fun e w' => e = .returned (.bool true) ∧ Keep [] w w' := by
  have kv : Keep [] w (w.alloc (.cells #[.int .i64 v0, .int .i64 v1, .int .u64 v2, .int .u64 v3, .int .i64 v4] 26)) := Keep.alloc _ _
  have hBv := Blk.new w 26 #[.int .i64 v0, .int .i64 v1, .int .u64 v2, .int .u64 v3, .int .i64 v4]
  have hlg := light11_any (w.alloc (.cells #[.int .i64 v0, .int .i64 v1, .int .u64 v2, .int .u64 v3, .int .i64 v4] 26)) A n cap m f (hK.keep kv)
  by_cases hL : Light11 n m
  case neg =>
    rw [decide_eq_false hL] at hlg
    clear hK hV hL hW hr hBv hvo hov
    go_enter Try.func5, Try.ntmps5
    go_wp2_with fail
    (with_reducible refine hlg.mono ?_)
    rintro e w2 ⟨rfl, k2⟩
    go_wp2_with fail
    (with_reducible refine (awake11_any _).mono ?_)
    rintro e w3 ⟨rfl, k3⟩
    go_wp2
    go_ret
    exact ⟨rfl, (kv.trans k2).trans k3⟩
  rw [decide_eq_true hL] at hlg
  by_cases h40 : 40 < nf
  · have h40' : (40 : Int) < nf := by omega
    clear hK hV hL hW hr hBv hvo hov
    go_enter Try.func5, Try.ntmps5
    go_wp2_with fail
    (with_reducible refine hlg.mono ?_)
    rintro e w2 ⟨rfl, k2⟩
    go_wp2_with fail
    (with_reducible refine (awake11_any _).mono ?_)
    rintro e w3 ⟨rfl, k3⟩
    go_wp2
    go_ret
    exact ⟨rfl, (kv.trans k2).trans k3⟩
  have h40' : ¬ (40 : Int) < nf := by omega
  by_cases h20 : 20 < nm
  · have h20' : (20 : Int) < nm := by omega
    clear hK hV hL hW hr hBv hvo hov
    go_enter Try.func5, Try.ntmps5
    go_wp2_with fail
    (with_reducible refine hlg.mono ?_)
    rintro e w2 ⟨rfl, k2⟩
    go_wp2_with fail
    (with_reducible refine (awake11_any _).mono ?_)
    rintro e w3 ⟨rfl, k3⟩
    go_wp2
    go_ret
    exact ⟨rfl, (kv.trans k2).trans k3⟩
  have h20' : ¬ (20 : Int) < nm := by omega
  obtain ⟨wv, hwv⟩ : ∃ wv, wv = w.alloc (.cells #[.int .i64 v0, .int .i64 v1, .int .u64 v2, .int .u64 v3, .int .i64 v4] 26) := ⟨_, rfl⟩
  rw [← hwv] at kv hBv hlg
  have h1 := fun X (hk : Keep [] wv X) => enc_any X A B n cap nf cb t m f k F ((hK.keep kv).keep hk) ((hV.keep kv).keep hk) ht
  unfold EncPost at h1
  rcases enc_cases n m f k nf F t with ⟨er, hR, her⟩ | ⟨K, l, rfl, hP, hn, hA, hR⟩
  · rw [hR] at h1
    dsimp only at h1
    rw [Option.getD_none, show ([] : List Int).length = 0 from rfl] at h1
    have e1 : (er == 0) = false := by simpa using her
    have e2 : (er != 0) = true := by simpa using her
    have H1 := Lib.hid h1
    clear h1 hK hV hL hR her hW hr hBv hvo hov
    go_enter Try.func5, Try.ntmps5
    subst hwv
    go_wp2_with fail
    (with_reducible refine hlg.mono ?_)
    rintro e w2 ⟨rfl, k2⟩
    clear hlg
    have c1 := H1.out _ k2
    go_wp2_with fail
    (with_reducible refine c1.mono ?_)
    rintro e w3 ⟨A3, c3, rfl, _, _, _, k3⟩
    clear c1
    go_wp2_with fail
    (with_reducible refine (awake11_any _).mono ?_)
    rintro e w9 ⟨rfl, k9⟩
    go_wp2
    go_ret
    exact ⟨rfl, ((kv.trans k2).trans k3).trans k9⟩
  rw [hR] at h1
  dsimp only at h1
  rw [Option.getD_some] at h1
  have hlen := encA_len hA
  have hM := hP.2.2.2
  rw [Int.toNat_natCast] at hM
  have hK16 := hP.2.2.1
  have hg := sumF_ge (f K) (m K)
  subst hn
  have hlt64 := hd_lt K (sumF (f K) (m K)) t (by omega) hM.2.2.2
  have hrl := encA_rng (fun j hj => ⟨(hov j hj).2.1, (hov j hj).2.2.1⟩) hA
  have hdb := dec_back (t := t) M hP hA hov
  have hds := dec_short (t := t) hP hA
  have hupd : ∀ (j : Nat) (x : List Int), j < m K → wordsV (f K j) ⟨v0, v1, v2, v3, v4⟩ = some x →
      decE n m f (((hd K (sumF (f K) (m K)) t : Nat) : Int) :: (l.take (sumF (f K) j - 1) ++ x ++ l.drop (sumF (f K) j + fw (f K j) - 1))) = ⟨K, (List.range (m K)).map fun i => plainV (updF F j ⟨v0, v1, v2, v3, v4⟩ i), (t % 4294967296 : Nat), 0⟩
      ∧ (∀ y ∈ x, 0 ≤ y ∧ y < 18446744073709551616) ∧ x.length = fw (f K j) ∧ Kind4 v0 := by
    intro j x hj hx
    have hs : sumF (f K) (j + 1) = sumF (f K) j + fw (f K j) := rfl
    have he := enc_set hx hA hj
    rw [hs] at he
    have hvu : ∀ i, i < m K → VOk (updF F j ⟨v0, v1, v2, v3, v4⟩ i) := by
      intro i hi
      unfold updF
      split
      · exact hvo
      · exact hov i hi
    have h2 := dec_back (t := t) [] hP he hvu
    rw [List.append_nil] at h2
    have h3 := enc_kind4 he hj
    unfold updF at h3
    rw [if_pos rfl] at h3
    exact ⟨h2, words_rng ⟨hvo.2.1, hvo.2.2.1⟩ hx, (words_len hx).1, h3⟩
  have hk4 : ∀ j, j < m K → Kind4 (F j).K := fun j hj => enc_kind4 hA hj
  obtain ⟨H, hH⟩ : ∃ H : Int, H = (hd K (sumF (f K) (m K)) t : Nat) := ⟨_, rfl⟩
  have hHr : 0 ≤ H ∧ H < 18446744073709551616 := by rw [hH]; omega
  rw [← hH] at h1 hdb hds hupd
  have hN : (H :: l).length = sumF (f K) (m K) := by rw [List.length_cons, hlen]
  rw [hN] at h1
  have hrN : ∀ y ∈ H :: l, 0 ≤ y ∧ y < 18446744073709551616 := by
    intro y hy
    rcases List.mem_cons.1 hy with rfl | hy
    · exact hHr
    · exact hrl y hy
  have hfc := fld_cases n m f K i ⟨v0, v1, v2, v3, v4⟩ hP
  have hfl := fun X (hk : Keep [] wv X) => fld_any X A n cap m f K i v0 v1 v2 v3 v4 ((hK.keep kv).keep hk)
  have hde := fun X (hk : Keep [] wv X) B' cb' (W : List Int) (hw : Wd X B' W) hr hl hcb => dec_any X A B' n cap cb' m f W ((hK.keep kv).keep hk) hw hr hl hcb
  unfold FldPost at hfl
  unfold DecPost at hde
  have hsv := fun X (hk : Keep [] wv X) A' c' (hA' : Vals X A' (m K) c' (fun j => ((List.range (m K)).map fun j => plainV (F j)).getD j z0)) => rsvs_any X B A' (m K) cb (m K) c' F _ ((hV.keep kv).keep hk) hA'
  rw [show decide (SameVs (m K) F (m K) (fun j => ((List.range (m K)).map fun j => plainV (F j)).getD j z0)) = true from decide_eq_true ⟨rfl, fun j hj => by
    show sameV (F j) (((List.range (m K)).map fun j => plainV (F j)).getD j z0) = true
    rw [show ((List.range (m K)).map fun j => plainV (F j)).getD j z0 = plainV (F j) by simp [List.getD_eq_getElem?_getD, hj]]
    exact sameV_plain (hk4 j hj)⟩] at hsv
  have hand : bits BinOp.and IntKind.u64 (t : Int) 4294967295 = ((t % 4294967296 : Nat) : Int) := and_mask t 32 ht (by decide)
  have hvc := hV.nc
  have hvm := hV.cap
  have h16 := hM.2.2.2
  have hM1 := hM.1
  have hM15 := hM.2.1
  have HV := Lib.hid (hV.keep kv)
  have HC := Lib.hid (hW.keep kv)
  have HMR := Lib.hid (And.intro hr hnm)
  have H1 := Lib.hid h1
  have HDB := Lib.hid hdb
  have HDS := Lib.hid hds
  have HUP := Lib.hid hupd
  have HK4 := Lib.hid hk4
  have HN := Lib.hid hN
  have HRN := Lib.hid hrN
  have HFL := Lib.hid hfl
  have HDE := Lib.hid hde
  have HSV := Lib.hid hsv
  have HB := Lib.hid hBv
  have HAND := Lib.hid hand
  have HFC := Lib.hid hfc
  have HLN := Lib.hid hlen
  clear h1 hdb hds hupd hk4 hN hrN hfl hde hsv hand hfc hK hV hW hr hnm hBv hvo hov hP hA hR hM hL hg hlt64 hrl hH hHr hlen
  generalize f K = fK at *
  generalize m K = mK at *
  obtain ⟨N, hNs⟩ : ∃ N, sumF fK mK = N := ⟨_, rfl⟩
  have HNS := Lib.hid hNs
  have hN1 : mK + 1 ≤ N := by rw [← hNs]; have := sumF_ge fK mK; omega
  rw [hNs] at H1 HN HLN h16
  clear hNs
  go_enter Try.func5, Try.ntmps5
  have hwv2 := Lib.hid hwv
  subst hwv
  go_wp2_with fail
  (with_reducible refine hlg.mono ?_)
  rintro e w2 ⟨rfl, k2⟩
  clear hlg
  have c1 := H1.out _ k2
  go_wp2_with fail
  (with_reducible refine c1.mono ?_)
  rintro e w3 ⟨A3, c3, rfl, z1, z2, y3, k3⟩
  clear c1
  have HW3 := Lib.hid y3
  have k03 := k2.trans k3
  have HCM := Lib.hid ((HC.out).keep k03)
  have HK3 := Lib.hid k03
  clear y3 k2 k3 k03
  obtain ⟨ii, hii, hz0, hz1, hz2⟩ := info_of u64parts
  go_wp2_with (at_builtin; refine wpList_append_src rfl (.const (.slice none 0 0)) (.tmp 67) 29 rfl w3.heap.size 24 ii (.int .u64 0) 1 8 Try.underlying29 hii hz0 hz1 hz2 rfl (by omega) (.slice none 0 0) 0 [] rfl ⟨rfl, Or.inl ⟨rfl, rfl⟩⟩ A3 N c3 ((H :: l).map u64v) rfl ?c1 ?c2 HW3.out.news ?c3 ?c4 ?c5 (Nat.le_refl _) ?_)
  case c1 => simpa using HN.out
  case c2 => intro e; exact HW3.out.len0 e HN.out
  case c3 => intro u hu; simp only [List.mem_map] at hu; obtain ⟨z, _, rfl⟩ := hu; rfl
  case c4 => unfold maxLen; omega
  case c5 => omega
  intro va w4 hown4 hgrow4
  have hk4 : Keep [] w3 w4 := grown_keep (Keep.refl _ _) (Nat.le_refl _) (show w3.ownsRow w3.heap.size 24 1 (.slice none 0 0) 0 [] from ⟨rfl, Or.inl ⟨rfl, rfl⟩⟩) hgrow4
  have HO4 := Lib.hid (And.intro (show w4.ownsRow w3.heap.size 24 1 va N ((H :: l).map u64v) from hown4) hk4)
  clear hown4 hgrow4 hk4
  have HM4 := Lib.hid (HCM.out.keep HO4.out.2)
  have hs4 : w3.heap.size ≤ w4.heap.size := HO4.out.2.size
  go_wp2_with (at_builtin; refine wpList_append_src rfl (.tmp 68) (.tmp 69) 29 rfl w3.heap.size 24 ii (.int .u64 0) 1 8 Try.underlying29 hii hz0 hz1 hz2 rfl (by omega) va N ((H :: l).map u64v) rfl HO4.out.1 C nm cm (M.map u64v) rfl ?e1 ?e2 HM4.out.news ?e3 ?e4 ?e5 hs4 ?_)
  case e1 => simpa using HMR.out.2
  case e2 => intro e; exact HM4.out.len0 e HMR.out.2
  case e3 => intro u hu; simp only [List.mem_map] at hu; obtain ⟨z, _, rfl⟩ := hu; rfl
  case e4 => unfold maxLen; omega
  case e5 => omega
  intro vb w5 hown5 hgrow5
  have hk5 : Keep [] w3 w5 := grown_keep HO4.out.2 (Nat.le_refl _) HO4.out.1 hgrow5
  have hlw : ((H :: l) ++ M).length = N + nm := by rw [List.length_append, HN.out, HMR.out.2]
  have hown5' : w5.ownsRow w3.heap.size 24 1 vb ((H :: l) ++ M).length (((H :: l) ++ M).map u64v) := by
    rw [hlw, List.map_append]
    exact hown5
  obtain ⟨Ab, cbb, hvb, b1, b2, b3⟩ := owns_wd hown5'
  rw [hlw] at hvb b1
  subst hvb
  have HK5 := Lib.hid (HK3.out.trans hk5)
  have HW5 := Lib.hid (HW3.out.keep hk5)
  have c2 := HDE.out w5 HK5.out Ab cbb ((H :: l) ++ M) b3 (fun y hy => (List.mem_append.1 hy).elim (HRN.out y) (HMR.out.1 y)) (by rw [hlw]; exact b1) b2
  rw [HDB.out, hlw] at c2
  dsimp only at c2
  rw [List.length_map, List.length_range] at c2
  have hand := HAND.out
  obtain ⟨ep, hep⟩ : ∃ ep, t % 4294967296 = ep := ⟨_, rfl⟩
  rw [hep] at c2 hand
  have q1 : ((K : Int) == K) = true := by simp
  have q2 : ((K : Int) != K) = false := by simp
  have q3 : ((ep : Int) == ep) = true := by simp
  have q4 : ((ep : Int) != ep) = false := by simp
  clear hown5 hgrow5 hk5 hlw hown5' b1 b2 b3 hep hs4
  go_wp2_with fail
  (with_reducible refine c2.mono ?_)
  rintro e w6 ⟨A6, c6, rfl, y6, k6⟩
  clear c2
  have HK6 := Lib.hid (HK5.out.trans k6)
  have HW6 := Lib.hid (HW5.out.keep k6)
  have s1 := HSV.out w6 HK6.out A6 c6 y6
  clear y6 k6
  go_wp2_with fail
  (with_reducible refine s1.mono ?_)
  rintro e w7 ⟨rfl, k7⟩
  clear s1
  have HK7 := Lib.hid (HK6.out.trans k7)
  have HW7 := Lib.hid (HW6.out.keep k7)
  clear k7
  have c3 := HFL.out w7 HK7.out
  have hB7 := HB.out.keep HK7.out (by simp)
  have d0 := (hB7.cell 0).trans (show _ = some (Value.int .i64 v0) from rfl)
  have d1 := (hB7.cell 1).trans (show _ = some (Value.int .i64 v1) from rfl)
  have d2 := (hB7.cell 2).trans (show _ = some (Value.int .u64 v2) from rfl)
  have d3 := (hB7.cell 3).trans (show _ = some (Value.int .u64 v3) from rfl)
  have d4 := (hB7.cell 4).trans (show _ = some (Value.int .i64 v4) from rfl)
  clear hB7
  rcases HFC.out with ⟨er, hR, her⟩ | ⟨j1, x, rfl, hj1, hx, hR⟩
  · rw [hR] at c3
    dsimp only at c3
    rw [Option.getD_none, show ([] : List Int).length = 0 from rfl] at c3
    have e1 : (er == 0) = false := by simpa using her
    have e2 : (er != 0) = true := by simpa using her
    clear hR her
    go_wp2_with fail
    (with_reducible refine c3.mono ?_)
    rintro e w8 ⟨A8, c8, rfl, _, _, _, k8⟩
    clear c3 d0 d1 d2 d3 d4
    go_wp2_with fail
    (with_reducible refine (awake11_any _).mono ?_)
    rintro e w9 ⟨rfl, k9⟩
    go_wp2
    go_ret
    exact ⟨rfl, ((kv.trans HK7.out).trans k8).trans k9⟩
  rw [hR] at c3
  dsimp only at c3
  obtain ⟨hU, hxr, hxl, hkv⟩ := HUP.out j1 x hj1 hx
  rw [Option.getD_some, hxl] at c3
  have hs0 : sumF fK (j1 + 1) = sumF fK j1 + fw (fK j1) := rfl
  have hs1 := sumF_mono fK (show j1 + 1 ≤ mK by omega)
  have hs2 := sumF_ge fK j1
  have hs3 : 1 ≤ fw (fK j1) := by unfold fw; split <;> omega
  rw [HNS.out, hs0] at hs1
  have HXL := Lib.hid (And.intro hxl (And.intro hxr hkv))
  have HU := Lib.hid hU
  clear hR hx hxr hxl hkv hU hs0 HUP
  generalize sumF fK j1 = s at *
  generalize fw (fK j1) = q at *
  have p1 : ¬ (s : Int) < 1 := by omega
  have p2 : ¬ (N : Int) < (s : Int) + (q : Int) := by omega
  go_wp2_with fail
  (with_reducible refine c3.mono ?_)
  rintro e w8 ⟨A8, c8, rfl, z3, z4, y8, k8⟩
  clear c3 d0 d1 d2 d3 d4
  have HK8 := Lib.hid (HK7.out.trans k8)
  have HX8 := Lib.hid y8
  have HW8 := Lib.hid (HW7.out.keep k8)
  clear y8 k8 HW3 HW5 HW6 HW7 HO4 HM4 HCM hand q1 q2 q3 q4 HSV HFL HFC HDB HK3 HK5 HK6
  go_wp2_with (at_builtin; refine wpList_append_src rfl (.const (.slice none 0 0)) (.tmp 123) 29 rfl w8.heap.size 24 ii (.int .u64 0) 1 8 Try.underlying29 hii hz0 hz1 hz2 rfl (by omega) (.slice none 0 0) 0 [] rfl ⟨rfl, Or.inl ⟨rfl, rfl⟩⟩ A3 N c3 ((H :: l).map u64v) rfl ?a1 ?a2 HW8.out.news ?a3 ?a4 ?a5 (Nat.le_refl _) ?_)
  case a1 => simpa using HN.out
  case a2 => intro e; exact HW8.out.len0 e HN.out
  case a3 => intro u hu; simp only [List.mem_map] at hu; obtain ⟨z, _, rfl⟩ := hu; rfl
  case a4 => unfold maxLen; omega
  case a5 => omega
  intro vc w9 hown9 hgrow9
  have hk9 : Keep [] w8 w9 := grown_keep (Keep.refl _ _) (Nat.le_refl _) (show w8.ownsRow w8.heap.size 24 1 (.slice none 0 0) 0 [] from ⟨rfl, Or.inl ⟨rfl, rfl⟩⟩) hgrow9
  have hown9' : w9.ownsRow w8.heap.size 24 1 vc (H :: l).length ((H :: l).map u64v) := by rw [HN.out]; exact hown9
  obtain ⟨g, cg, hvc9, hrow9, hg9⟩ := owns_rowU hown9' (by simp)
  rw [HN.out] at hvc9 hrow9
  subst hvc9
  have hcg := hrow9.cap_le
  have hcgm : cg ≤ 9223372036854775807 := by have := hrow9.cap_max; unfold maxLen at this; omega
  have r1 : (s : Int) ≤ (N : Int) := by omega
  have r2 : ¬ cg = s := by omega
  have r3 : s ≤ N := by omega
  have r4 : (s : Int) ≤ (cg : Int) := by omega
  have r5 : (N : Int) ≤ (cg : Int) := by omega
  have HR9 := Lib.hid hrow9
  have HX9 := Lib.hid (HX8.out.keep hk9)
  have HK9 := Lib.hid hk9
  clear hown9 hgrow9 hown9' hrow9 hk9
  go_wp2_with (refine wpList_copy_wd rfl (.tmp 127) (.tmp 128) 29 29 rfl 24 Try.underlying29 u64sz g s (N - s) (cg - s) rfl A8 q c8 rfl (by omega) (by omega) 24 N cg _ HR9.out (by omega) x HXL.out.1 HX9.out ?_)
  intro w10 hrow10 hk10
  obtain ⟨U, hUe⟩ : ∃ U, U = H :: (l.take (s - 1) ++ x ++ l.drop (s + q - 1)) := ⟨_, rfl⟩
  have hUl : U.length = N := by
    have h1 := HLN.out
    have h2 := HXL.out.1
    rw [hUe]
    simp only [List.length_cons, List.length_append, List.length_take, List.length_drop]
    omega
  have hwd : Wd w10 (some ⟨g, 0, none⟩) U := hrow10.wd hUl (fun a ha => by
    have h1 := splice_getD H l x s q (by omega) HXL.out.1 (by have := HLN.out; omega) a (by have := HLN.out; omega)
    rw [hUe, h1]
    by_cases hc : s ≤ a ∧ a < s + q
    · rw [if_pos hc, if_pos hc, List.getD_eq_getElem?_getD]
    · rw [if_neg hc, if_neg hc, List.getD_eq_getElem?_getD])
  have hUr : ∀ y ∈ U, 0 ≤ y ∧ y < 18446744073709551616 := by
    intro y hy
    rw [hUe] at hy
    rcases List.mem_cons.1 hy with rfl | hy
    · exact HRN.out _ (by simp)
    rcases List.mem_append.1 hy with hy | hy
    · rcases List.mem_append.1 hy with hy | hy
      · exact HRN.out y (List.mem_cons_of_mem _ (List.mem_of_mem_take hy))
      · exact HXL.out.2.1 y hy
    · exact HRN.out y (List.mem_cons_of_mem _ (List.mem_of_mem_drop hy))
  have k810 : Keep [] w8 w10 := HK9.out.since hk10 (by intro a ha; rw [List.mem_singleton] at ha; omega)
  have HK10 := Lib.hid (HK8.out.trans k810)
  have HL10 := Lib.hid (HW8.out.keep k810)
  have c4 := HDE.out w10 HK10.out (some ⟨g, 0, none⟩) cg U hwd hUr (by rw [hUl]; exact hcg) hcgm
  rw [hUl, hUe, HU.out] at c4
  dsimp only at c4
  rw [List.length_map, List.length_range] at c4
  have hgs : ∀ j, j < mK → sameV (((List.range mK).map fun i => plainV (updF F j1 ⟨v0, v1, v2, v3, v4⟩ i)).getD j z0) (updF F j1 ⟨v0, v1, v2, v3, v4⟩ j) = true := by
    intro j hj
    rw [show ((List.range mK).map fun i => plainV (updF F j1 ⟨v0, v1, v2, v3, v4⟩ i)).getD j z0 = plainV (updF F j1 ⟨v0, v1, v2, v3, v4⟩ j) by simp [List.getD_eq_getElem?_getD, hj], sameV_symm]
    refine sameV_plain ?_
    unfold updF
    split
    · exact HXL.out.2.2
    · exact HK4.out j hj
  have HGS := Lib.hid hgs
  clear hrow10 hk10 hUe hUl hwd hUr k810 hgs
  go_wp2_with fail
  (with_reducible refine c4.mono ?_)
  rintro e w11 ⟨A11, c11, rfl, y11, k11⟩
  clear c4
  have HK11 := Lib.hid (HK10.out.trans k11)
  have HG11 := Lib.hid y11
  have HL11 := Lib.hid (HL10.out.keep k11)
  have q5 : ((mK : Int) == mK) = true := by simp
  have q6 : ((mK : Int) != mK) = false := by simp
  clear y11 k11
  go_wp2_with fail
  go_loopw [149] (fun x wr => ∃ j : Nat, j ≤ mK ∧ x = .int .i64 j ∧ Keep [] w11 wr) (fun x _ => mK - (RowKit.intOf x).toNat)
  case atStart => exact ⟨0, by omega, rfl, Keep.refl _ _⟩
  case round =>
  obtain ⟨j, hj, rfl, hdr⟩ := hrel
  by_cases hlt : j < mK
  case neg =>
    obtain rfl : j = mK := by omega
    have hLr := HL11.out.keep hdr
    obtain ⟨bL, oL, rfl, hbL, hcL⟩ := hLr.cells (by rw [HN.out]; omega)
    have htk : ((H :: l).take l.length).length = N - 1 := by rw [List.length_take, HN.out]; have := HLN.out; omega
    have hwt : Wd wr (some ⟨bL, oL, none⟩) ((H :: l).take l.length) := by
      have := hLr.part 0 l.length (by rw [HN.out]; have := HLN.out; omega)
      rwa [List.drop_zero, Nat.add_zero] at this
    have c6 := HDE.out wr (HK11.out.trans hdr) (some ⟨bL, oL, none⟩) c3 ((H :: l).take l.length) hwt (fun y hy => HRN.out y (List.mem_of_mem_take hy)) (by rw [htk]; omega) z2
    rw [htk, HDS.out] at c6
    unfold decNo at c6
    dsimp only at c6
    rw [show ([] : List Val).length = 0 from rfl] at c6
    obtain ⟨N1, hN1e⟩ : ∃ N1, N = N1 + 1 := ⟨N - 1, by omega⟩
    have HKe := Lib.hid ((kv.trans HK11.out).trans hdr)
    rw [hN1e, Nat.add_sub_cancel] at c6
    have u1 : (N : Int) - 1 = (N1 : Int) := by omega
    have u2 : wrap64 ((N : Int) - 1) = (N1 : Int) := by rw [u1]; exact wrap64_of (by omega) (by omega)
    have u3 : (N1 : Int) ≤ (c3 : Int) := by omega
    have u4 : N1 ≤ c3 := by omega
    clear hLr hcL htk hwt hdr hN1e
    go_wp2_with fail
    (with_reducible refine c6.mono ?_)
    rintro e w12 ⟨A12, c12, rfl, _, k12⟩
    clear c6
    go_wp2_with fail
    (with_reducible refine (awake11_any _).mono ?_)
    rintro e w13 ⟨rfl, k13⟩
    go_wp2
    go_ret
    exact ⟨rfl, (HKe.out.trans k12).trans k13⟩
  have hK0 := HK11.out.trans hdr
  obtain ⟨bF, oF, rfl, hbF, hcF⟩ := (HV.out.keep hK0).cells (by omega)
  obtain ⟨a0, a1, a2, a3, a4⟩ := hcF j hlt
  obtain ⟨bG, oG, rfl, hbG, hcG⟩ := (HG11.out.keep hdr).cells (by omega)
  obtain ⟨b0, b1, b2, b3, b4⟩ := hcG j hlt
  have hBr := HB.out.keep hK0 (by simp)
  have d0 := (hBr.cell 0).trans (show _ = some (Value.int .i64 v0) from rfl)
  have d1 := (hBr.cell 1).trans (show _ = some (Value.int .i64 v1) from rfl)
  have d2 := (hBr.cell 2).trans (show _ = some (Value.int .u64 v2) from rfl)
  have d3 := (hBr.cell 3).trans (show _ = some (Value.int .u64 v3) from rfl)
  have d4 := (hBr.cell 4).trans (show _ = some (Value.int .i64 v4) from rfl)
  have hbox := hBr.lt
  have hsame := HGS.out j hlt
  obtain ⟨G, hG⟩ : ∃ G, ((List.range mK).map fun i => plainV (updF F j1 ⟨v0, v1, v2, v3, v4⟩ i)).getD j z0 = G := ⟨_, rfl⟩
  rw [hG] at b0 b1 b2 b3 b4 hsame
  obtain ⟨g0, g1, g2, g3, g4⟩ := G
  dsimp only at b0 b1 b2 b3 b4
  clear hG hcF hcG hBr hK0
  unfold updF at hsame
  by_cases hji : j = j1
  · subst hji
    rw [if_pos rfl] at hsame
    have q7 : ((j : Int) == (j : Int)) = true := by simp
    generalize (F j).K = f0 at *
    generalize (F j).n = f1 at *
    generalize (F j).p = f2 at *
    generalize (F j).q = f3 at *
    generalize (F j).r = f4 at *
    have hs : ∀ W, Calls Try.prog 18 #[.agg #[.int .i64 g0, .int .i64 g1, .int .u64 g2, .int .u64 g3, .int .i64 g4], .agg #[.int .i64 v0, .int .i64 v1, .int .u64 v2, .int .u64 v3, .int .i64 v4]] W fun e w' => e = .returned (.bool true) ∧ Keep [] W w' := fun W => by
      have := rvsame_any g0 g1 g2 g3 g4 v0 v1 v2 v3 v4 W
      rwa [hsame] at this
    clear hsame
    go_upto_region 25 with fail
    go_cut [149, 166] from 149 to 167 (fun s149 s166 wx => s149 = .int .i64 j ∧ s166 = .bool false ∧ Keep [] wr wx)
    case first =>
      go_wp2_with fail
      go_region_with (go_at_call 18; refine (hs _).mono ?_; rintro e w4 ⟨rfl, k4⟩)
      all_goals
        go_wp2_with fail
        go_meet
        exact ⟨rfl, rfl, (by repeat (first | exact k4 | (with_reducible exact Keep.alloc _ _) | (with_reducible exact (((((Keep.alloc _ _).cellV (Nat.le_refl _)).cellV (Nat.le_refl _)).cellV (Nat.le_refl _)).cellV (Nat.le_refl _)).cellV (Nat.le_refl _)) | (with_reducible refine Keep.trans ?_ (Keep.drew _)) | (with_reducible refine Keep.trans ?_ k4)))⟩
    case rest =>
    obtain ⟨rfl, rfl, k4⟩ := hcut
    have HKr := Lib.hid (hdr.trans k4)
    clear a0 a1 a2 a3 a4 b0 b1 b2 b3 b4 d0 d1 d2 d3 d4 hs k4 hdr
    go_wp2
    go_roundw
    case rel => exact ⟨j + 1, by omega, by go_num, HKr.out⟩
    case measure => simp [RowKit.intOf]; omega
  · rw [if_neg hji] at hsame
    have q7 : ((j : Int) == (j1 : Int)) = false := by simp; omega
    obtain ⟨Fj, hFj⟩ : ∃ Fj, F j = Fj := ⟨_, rfl⟩
    rw [hFj] at a0 a1 a2 a3 a4 hsame
    obtain ⟨f0, f1, f2, f3, f4⟩ := Fj
    dsimp only at a0 a1 a2 a3 a4
    clear hFj
    have hs : ∀ W, Calls Try.prog 18 #[.agg #[.int .i64 g0, .int .i64 g1, .int .u64 g2, .int .u64 g3, .int .i64 g4], .agg #[.int .i64 f0, .int .i64 f1, .int .u64 f2, .int .u64 f3, .int .i64 f4]] W fun e w' => e = .returned (.bool true) ∧ Keep [] W w' := fun W => by
      have := rvsame_any g0 g1 g2 g3 g4 f0 f1 f2 f3 f4 W
      rwa [hsame] at this
    clear hsame
    go_upto_region 25 with fail
    go_cut [149, 166] from 149 to 167 (fun s149 s166 wx => s149 = .int .i64 j ∧ s166 = .bool false ∧ Keep [] wr wx)
    case first =>
      go_wp2_with fail
      go_region_with (go_at_call 18; refine (hs _).mono ?_; rintro e w4 ⟨rfl, k4⟩)
      all_goals
        go_wp2_with fail
        go_meet
        exact ⟨rfl, rfl, (by repeat (first | exact k4 | (with_reducible exact Keep.alloc _ _) | (with_reducible exact (((((Keep.alloc _ _).cellV (Nat.le_refl _)).cellV (Nat.le_refl _)).cellV (Nat.le_refl _)).cellV (Nat.le_refl _)).cellV (Nat.le_refl _)) | (with_reducible refine Keep.trans ?_ (Keep.drew _)) | (with_reducible refine Keep.trans ?_ k4)))⟩
    case rest =>
    obtain ⟨rfl, rfl, k4⟩ := hcut
    have HKr := Lib.hid (hdr.trans k4)
    clear a0 a1 a2 a3 a4 b0 b1 b2 b3 b4 d0 d1 d2 d3 d4 hs k4 hdr
    go_wp2
    go_roundw
    case rel => exact ⟨j + 1, by omega, by go_num, HKr.out⟩
    case measure => simp [RowKit.intOf]; omega
end Go.Proofs.Ytbmnhngkmokklaa
