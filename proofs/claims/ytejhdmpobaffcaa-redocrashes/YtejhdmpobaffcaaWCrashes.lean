/-
  RedoCrashes, walked. No conditions.
-/
import Derived.Test.YtejhdmpobaffcaaWBase
namespace Go.Proofs.Ytejhdmpobaffcaa
open Go.RowKit Go.Flo
set_option maxRecDepth 100000

/-- The device, between crashes. -/
def CdRel (w : World) (L : Loc) (N c : Nat) (G : Nat → Ent) (F : Nat → Int) (q : Int) (x : Value) (wr : World) : Prop :=
  ∃ (i : Nat) (S : St), x = .int .i64 i ∧ i ≤ 6 ∧ Dev wr L S ∧ Half N c G F S ∧ (q = 0 → Whole N c G F S) ∧ S.n = N ∧ 0 ≤ S.steps ∧ S.steps ≤ 1000 + 100 * i ∧ Keep L.own w wr

set_option maxHeartbeats 8000000 in
theorem walk_crashes (w : World) (A0 : Option Addr) (n0 cap0 : Nat) (f : Nat → Int) (hW : Wds w A0 n0 cap0 f) (hf : ∀ j, 0 ≤ f j ∧ f j < 18446744073709551616) (A1 : Option Addr) (n1 cap1 : Nat) (E : Nat → Ent) (hE : Ents w [] A1 n1 cap1 E) (hEB : EB E n1)
    (A2 : Option Addr) (n2 cap2 : Nat) (g : Nat → Int) (hI : Ints w A2 n2 cap2 g) (A3 : Option Addr) (n3 cap3 : Nat) (hP : IsRows IsPks w A3 n3 cap3) :
    Calls Try.prog 7 #[.slice A0 n0 cap0, .slice A1 n1 cap1, .slice A2 n2 cap2, .slice A3 n3 cap3] w fun e w' => e = .returned (.bool true) ∧ Keep [] w w' := by
  obtain ⟨i0, hi0, hz0, hz1, hz2⟩ := info_parts parts28
  obtain ⟨j0, hj0, hy0, hy1, hy2⟩ := info_parts parts46
  have hm1 : (Instr.makeSlice 25 (.int .i64 64) (.int .i64 64)).run Try.prog w = _ := mk_words 64 (by omega) w
  have hmr := made_row w 64 (by omega)
  have k0 : Keep [] w (w.alloc (.cells (madeCells (Value.int .u64 0).cells (64 * 1)) 44)) := Keep.alloc _ _
  have hcap0 := hW.cap
  have hnc0 := hW.nc
  have hcap1 := hE.cap
  have hnc1 := hE.nc
  have hcap2 := hI.cap
  have hnc2 := hI.nc
  have hcap3 := hP.2.1
  have hnc3 := hP.1
  have hs0 : w.heap.size ≤ (w.alloc (.cells (madeCells (Value.int .u64 0).cells (64 * 1)) 44)).heap.size := by simp
  generalize madeCells (Value.int .u64 0).cells (64 * 1) = Z at *
  have HMR := Lib.hid hmr
  have HW := Lib.hid hW
  have HE := Lib.hid hE
  have HI := Lib.hid hI
  have HP := Lib.hid hP
  clear hmr hW hE hI hP
  go_enter Try.func7, Try.ntmps7
  go_upto_if 30 with fail
  go_cut [0] (fun s0 wx => ∃ m, s0 = .slice A0 m cap0 ∧ m ≤ n0 ∧ m ≤ 60 ∧ w = wx)
  case first =>
    by_cases h60 : 60 < n0
    · obtain ⟨b, o, hA0, hb, _⟩ := HW.out.cells (by omega)
      subst hA0
      have h60' : (60 : Int) < (n0 : Int) := by omega
      go_wp2_with fail
      go_meet
      exact ⟨60, rfl, by omega, by omega, rfl⟩
    · have h60' : ¬ (60 : Int) < (n0 : Int) := by omega
      go_wp2_with fail
      go_meet
      exact ⟨n0, rfl, by omega, by omega, rfl⟩
  case rest =>
  obtain ⟨m, rfl, hm, hm60, rfl⟩ := hcut
  go_upto_if 37 with fail
  go_cut [1] (fun s1 wx => ∃ k, s1 = .slice A1 k cap1 ∧ k ≤ n1 ∧ k ≤ 24 ∧ w = wx)
  case first =>
    by_cases h24 : 24 < n1
    · obtain ⟨b, o, hA1, _, hb, _⟩ := HE.out.cells (by omega)
      subst hA1
      have h24' : (24 : Int) < (n1 : Int) := by omega
      go_wp2_with fail
      go_meet
      exact ⟨24, rfl, by omega, by omega, rfl⟩
    · have h24' : ¬ (24 : Int) < (n1 : Int) := by omega
      go_wp2_with fail
      go_meet
      exact ⟨n1, rfl, by omega, by omega, rfl⟩
  case rest =>
  obtain ⟨k, rfl, hk, hk24, rfl⟩ := hcut
  have hWm := Lib.hid ((HW.out.sub hm).keep k0)
  have hEk := Lib.hid (HE.out.sub hk)
  have hEBk : EB E k := fun j hj => hEB j (by omega)
  have hcl : (rowR 64 fun _ => 0) ++ rowR m f = rowR (64 + m) (cat 64 (fun _ => 0) f) := rowR_cat 64 m _ f
  have HCL := Lib.hid hcl
  clear hcl
  go_wp2_with (at_builtin; refine wpList_append_src rfl (.tmp 40) (.tmp 41) 25 rfl w.heap.size 44 i0 (.int .u64 0) 1 8 Try.underlying25 hi0 hz0 hz1 hz2 rfl (by omega) _ 64 (rowR 64 fun _ => 0) rfl HMR.out A0 m cap0 (rowR m f) rfl (by rw [rowR_len]; omega) hWm.out.nil hWm.out.news (rowR_one _ _) (by simp [maxLen]; omega) (by omega) hs0 ?_)
  intro v4 w4 hown4 hgrow4
  have hrow : w4.ownsRow w.heap.size 44 1 v4 (64 + m) (rowR (64 + m) (cat 64 (fun _ => 0) f)) := by
    rw [← HCL.out]
    exact hown4
  have hk4 : Keep [] w w4 := k0.into (Keep.grown (own := [w.heap.size]) hgrow4 (fun k _ e => by simp [Value.ownBlock] at e; simp [e])) (by simp)
  obtain ⟨G0, capG, rfl, hR, hG⟩ := rowR_row hrow (by omega)
  obtain ⟨F, hF⟩ : ∃ F : Nat → Int, F = cat 64 (fun _ => 0) f := ⟨_, rfl⟩
  rw [← hF] at hR
  have hF0 : F 0 = 0 := by rw [hF]; simp [cat]
  have hFn : ∀ j, 0 ≤ F j := fun j => by
    rw [hF]; unfold cat; split
    · exact Int.le_refl 0
    · exact (hf _).1
  obtain ⟨N, hN⟩ : ∃ N, N = 64 + m := ⟨_, rfl⟩
  rw [← hN] at hR ⊢
  have hNb : 64 ≤ N ∧ N ≤ 124 := by omega
  have hNm : (64 : Int) + (m : Int) = (N : Int) := by omega
  have HNM := Lib.hid hNm
  have HR := Lib.hid hR
  have HFN := Lib.hid hFn
  have HF0 := Lib.hid hF0
  have hGc := hR.cap_le
  have hGm := hR.cap_max
  unfold maxLen at hGm
  clear hown4 hgrow4 hWm hrow HCL HMR hF hN hFn hF0 hm1 HW hm k0 hs0
  go_wp2_with (at_builtin; refine wpList_append_src rfl (.const (.slice none 0 0)) (.tmp 43) 25 rfl w4.heap.size 44 i0 (.int .u64 0) 1 8 Try.underlying25 hi0 hz0 hz1 hz2 rfl (by omega) _ 0 [] rfl (World.ownsRow_nil _ _ _ _) (some ⟨G0, 0, none⟩) N capG (rowR N F) rfl (by rw [rowR_len]; omega) (by simp) (fun ad had => by injection had with had; subst had; exact rowR_cells HR.out) (rowR_one _ _) (by simp [maxLen]; omega) (by omega) (Nat.le_refl _) ?_)
  intro v5 w5 hown5 hgrow5
  replace hown5 : w5.ownsRow w4.heap.size 44 1 v5 N (rowR N F) := by simpa using hown5
  have hk5 : Keep [] w4 w5 := nil_keptR hgrow5 rfl
  obtain ⟨Wn, capW, rfl, hRW, hWn⟩ := rowR_row hown5 (by omega)
  have HRW := Lib.hid hRW
  have HR5 := Lib.hid (HR.out.keep hk5 (by simp))
  have hGW : G0 < Wn := by have := HR.out.lt; omega
  have hWl := hRW.lt
  have hWc := hRW.cap_le
  have hWm := hRW.cap_max
  unfold maxLen at hWm
  have hk6 := hk4.trans hk5
  clear hown5 hgrow5 hRW HR
  go_wp2_with fail
  go_loopw [47, 12] (fun x y wr => CrRel w5 w5.heap.size N Wn capW k F x y wr) (fun x _ _ => k - (intOf x).toNat)
  case atStart => exact ⟨0, 0, fun _ => ⟨0, 0⟩, rfl, by omega, by omega, fun j hj => by omega, World.ownsRow_nil _ _ _ _, HRW.out, Keep.refl _ _⟩
  case round =>
    obtain ⟨i, c, Gd, rfl, hik, hci, hGd, hrow, hRw, hK7⟩ := hrel
    have HGD := Lib.hid hGd
    have HROW := Lib.hid hrow
    have HRw := Lib.hid hRw
    clear hGd hrow hRw
    have hk7 : Keep [] w wr := hk6.into hK7 (by simp; have := hk4.size; omega)
    have hs7 := hK7.size
    by_cases hlt : i < k
    · obtain ⟨b', o', hA', _, hb', hcc⟩ := (hEk.out.lift (own := []) hk7 (by simp)).cells (by omega)
      subst hA'
      obtain ⟨c0, c1⟩ := hcc i hlt
      have hlt' : (i : Int) < (k : Int) := by omega
      have hEi := hEBk i hlt
      clear hcc
      by_cases hin : 64 ≤ (E i).a ∧ (E i).a < N
      · obtain ⟨hi1, hi2⟩ := hin
        obtain ⟨t, ht⟩ : ∃ t : Nat, (E i).a = t := ⟨(E i).a.toNat, by omega⟩
        have hgi : E i = ⟨(t : Int), (E i).v⟩ := by rw [← ht]
        have HGI := Lib.hid hgi
        rw [ht] at c0 hi1 hi2 hEi
        have hi2' : (t : Int) < 64 + (m : Int) := by have := HNM.out; omega
        have hv0 := hEi.2.2
        obtain ⟨vv, hvv⟩ : ∃ vv, vv = (E i).v := ⟨_, rfl⟩
        rw [← hvv] at c1 HGI hv0
        have HVV := Lib.hid hvv
        clear ht hgi hEi hvv
        go_wp2_with (at_builtin; refine wpList_append_src rfl (.tmp 61) (.tmp 63) 26 rfl w5.heap.size 46 j0 (.agg #[.int .i64 0, .int .u64 0]) 2 16 Try.underlying26 hj0 hy0 hy1 hy2 rfl (by omega) _ c (entsR Gd c) rfl (ownsRow_keep0 HROW.out ((Keep.alloc _ _).trans (Keep.alloc _ _))) (some ⟨_, 0, none⟩) 1 1 [.int .i64 (t : Int), .int .u64 vv] rfl rfl (by simp) (ents_new _ ⟨(t : Int), vv⟩ _ (by simp)) (by intro u hu; simp at hu; rcases hu with rfl | rfl <;> rfl) (by simp [maxLen]; omega) (by omega) (by simp; omega) ?_)
        intro v8 w8 hown8 hgrow8
        have kk : Keep [] wr ((wr.alloc (.cells #[.int .i64 (t : Int), .int .u64 vv] 46)).alloc (.cells #[.int .i64 (t : Int), .int .u64 vv] 46)) := (Keep.alloc _ _).trans (Keep.alloc _ _)
        have hK8 : Keep [Wn] w5 w8 := (hK7.trans kk.of_nil).into (Keep.grown (own := u12.ownBlock.toList) hgrow8 (fun k _ e => by simp [e])) (fun i hi' => by simp at hi'; have := HROW.out.lt i hi'; omega)
        have hB8 := own_keptB HROW.out kk hgrow8 ((Blk.new wr 46 #[.int .i64 (t : Int), .int .u64 vv]).keep (own := []) (Keep.alloc _ (.cells #[.int .i64 (t : Int), .int .u64 vv] 46)) (by simp)) (Nat.le_refl _)
        have cc0 := (hB8.cell 0).trans (show _ = some (Value.int .i64 (t : Int)) from rfl)
        have cc1 := (hB8.cell 1).trans (show _ = some (Value.int .u64 vv) from rfl)
        have hRw8 : Row w8 44 Wn N capW (Go.Proofs.Ytejhdmpobaffcaa.u64 (upd F Gd c)) := (HRw.out.keep kk (by simp)).keep (Keep.grown (own := u12.ownBlock.toList) hgrow8 (fun k _ e => by simp [e])) (fun hm => by simp at hm; have := HROW.out.lt Wn hm; omega)
        have hx0 := hRw8.cell (show t < N by omega)
        have hz8 := hRw8.frozen t
        obtain ⟨G', hG'⟩ : ∃ G' : Nat → Ent, G' = fun j => if j < c then Gd j else E i := ⟨_, rfl⟩
        have hGc' : ∀ j, j < c → Gd j = G' j := fun j hj => by rw [hG']; simp [hj]
        have hGe : G' c = ⟨(t : Int), vv⟩ := by rw [hG']; simp; exact HGI.out
        have hrow8 : w8.ownsRow w5.heap.size 46 2 v8 (c + 1) (entsR G' (c + 1)) := by
          rw [entsR, hGe, ← entsR_congr hGc']
          exact hown8
        have hRw9 : Row (w8.setCell ⟨Wn, t, none⟩ (.int .u64 vv)) 44 Wn N capW (Go.Proofs.Ytejhdmpobaffcaa.u64 (upd F G' (c + 1))) := (hRw8.set_ t _).congr (fun j _ => by
          unfold Go.Proofs.Ytejhdmpobaffcaa.u64
          simp only [upd]
          rw [hGe, ← upd_congr hGc']
          dsimp only
          by_cases e : j = t
          · rw [if_pos e, if_pos (by omega)]
          · rw [if_neg e, if_neg (by omega)])
        have hrow9 : (w8.setCell ⟨Wn, t, none⟩ (.int .u64 vv)).ownsRow w5.heap.size 46 2 v8 (c + 1) (entsR G' (c + 1)) := ownsRow_keep hrow8 (own := [Wn]) (Keep.setCell _ _ (by simp) _) (by simp; omega)
        have hK9 : Keep [Wn] w5 (w8.setCell ⟨Wn, t, none⟩ (.int .u64 vv)) := hK8.trans (Keep.setCell _ _ (by simp) _)
        have hGd' : ∀ j, j < c + 1 → 64 ≤ (G' j).a ∧ (G' j).a < N ∧ 0 ≤ (G' j).v ∧ (G' j).v < 18446744073709551616 := by
          intro j hj
          by_cases e : j < c
          · rw [← hGc' j e]; exact HGD.out j e
          · rw [show j = c by omega, hGe]; exact ⟨hi1, hi2, hv0⟩
        have H1 := Lib.hid hRw9
        have H2 := Lib.hid hrow9
        have H3 := Lib.hid hGd'
        clear hown8 hgrow8 hrow8 hRw8 hB8 kk hRw9 hrow9 hGd' hG' hGc' hGe c0 c1 HROW HRw HGD hK8
        unfold Go.Proofs.Ytejhdmpobaffcaa.u64 at hx0
        go_wp2_with fail
        exact ⟨⟨i + 1, c + 1, G', by go_num, by omega, by omega, H3.out, H2.out, H1.out, hK9⟩, by simp [intOf]; omega⟩
      · have ki : Keep [] wr (wr.alloc (.cells #[.int .i64 (E i).a, .int .u64 (E i).v] 46)) := Keep.alloc _ _
        have H1 := Lib.hid (HRw.out.keep ki (by simp))
        have H2 := Lib.hid (ownsRow_keep0 HROW.out ki)
        have hK8 := hK7.trans ki.of_nil
        by_cases hi1 : 64 ≤ (E i).a
        · have hi2 : 64 + (m : Int) ≤ (E i).a := by have := HNM.out; omega
          clear hin
          go_wp2_with fail
          exact ⟨⟨i + 1, c, Gd, by go_num, by omega, by omega, HGD.out, H2.out, H1.out, hK8⟩, by simp [intOf]; omega⟩
        · have hi4 : (E i).a < 64 := by omega
          have hi5 : decide (64 ≤ (E i).a) = false := by simpa using hi1
          clear hin hi1
          go_wp2_with fail
          exact ⟨⟨i + 1, c, Gd, by go_num, by omega, by omega, HGD.out, H2.out, H1.out, hK8⟩, by simp [intOf]; omega⟩
    · have hnl : ¬ (i : Int) < (k : Int) := by omega
      obtain ⟨A, capE, hv, hEn, hEg⟩ := Ents.of_owns HROW.out
      subst hv
      have hR7 := HR5.out.keep hK7 (by simp; omega)
      have hld := laid_any wr (some ⟨G0, 0, none⟩) N capG F (Wds.row hR7) (by omega)
      have HEN := Lib.hid hEn
      have HR7 := Lib.hid hR7
      have hce := hEn.cap
      have hne := hEn.nc
      have hEO : EOk N c Gd := ⟨by omega, by omega, by omega, fun j hj => ⟨(HGD.out j hj).1, (HGD.out j hj).2.1⟩, fun j hj => (HGD.out j hj).2.2.1⟩
      have HEO := Lib.hid hEO
      have hGB : EB Gd c := fun j hj => by have := HGD.out j hj; omega
      have HGB := Lib.hid hGB
      clear hEn hEg hR7 hEO hGB HROW HE hEk HR5 HRW
      go_wp2_with fail
      (with_reducible refine hld.mono ?_)
      rintro e w10 ⟨L, T, rfl, hD, hT, hLf, hTf, hTl, hK11⟩
      have hk11 := hk7.trans hK11
      have hL7 : ∀ k ∈ L.own, w.heap.size ≤ k := fun k hk => by have := hLf k hk; have := hk7.size; omega
      have hWL : Wn ∉ L.own := fun hm => by have := hLf Wn hm; have := HRw.out.lt; omega
      have hGL : G0 ∉ L.own := fun hm => by have := hLf G0 hm; have := HR7.out.lt; omega
      obtain ⟨b1, b2, b3, b4⟩ := laidS_facts N F
      have hsn : 0 ≤ (laidS N F).steps ∧ (laidS N F).steps ≤ 500 := by rw [b2]; unfold nl; omega
      have hnone : None_ N c Gd F (laidS N F) := laid_none (by omega) HF0.out (fun j _ => HFN.out j)
      have HRW10 := Lib.hid (HRw.out.keep hK11 (by simp))
      have HRG10 := Lib.hid (HR7.out.keep hK11 (by simp))
      have HEN10 := Lib.hid (HEN.out.lift hK11 hLf)
      have HI10 := Lib.hid (HI.out.keep hk11)
      have HP10 := Lib.hid (show IsRows (fun W A m c => ∃ p, Hid' (∀ {own : List Nat}, (∀ k ∈ own, w.heap.size ≤ k) → Pk w10 own A m c p) ∧ ∀ j, 0 ≤ p j ∧ p j < 256) w10 A3 n3 cap3 from HP.out.keep' hk11 (fun A m c ⟨p, h1, h2⟩ => ⟨p, ⟨fun ho => h1.lift hk11 ho⟩, h2⟩))
      have HPB := Lib.hid (show ∀ b o, A3 = some ⟨b, o, none⟩ → 0 < n3 → b < w.heap.size from fun b o hA h0 => by
        obtain ⟨b', o', e, hb, _⟩ := HP.out.2.2 h0
        rw [hA] at e
        injection e with e
        injection e with e
        omega)
      have HIB := Lib.hid (show ∀ b o, A2 = some ⟨b, o, none⟩ → 0 < n2 → b < w.heap.size from fun b o hA h0 => by
        obtain ⟨b', o', e, hb, _⟩ := HI.out.cells h0
        rw [hA] at e
        injection e with e
        injection e with e
        omega)
      have HD := Lib.hid hD
      have HNO := Lib.hid hnone
      have hoff := b1.1
      clear hld hT hLf hTf hTl hK11 b1 b2 b4 HEN HR7 HRw HI HP hD hnone
      generalize laidS N F = S0 at *
      have HOF := Lib.hid hoff
      have HB3 := Lib.hid b3
      clear hoff b3
      go_upto_if 79 with fail
      go_cut [8] (fun s8 wx => s8 = .bool false ∧ ∃ S, Dev wx L S ∧ None_ N c Gd F S ∧ S.n = N ∧ S.off = false ∧ 0 ≤ S.steps ∧ S.steps ≤ 500 ∧ Keep L.own w10 wx)
      case first =>
        by_cases hf0 : 0 < n2
        · obtain ⟨b', o', hA', hb', hcc⟩ := HI10.out.cells hf0
          subst hA'
          have cz := hcc 0 hf0
          have hf0' : (0 : Int) < (n2 : Int) := by omega
          obtain ⟨U, hU⟩ : ∃ U, IntKind.u64.wrap (g 0) = U := ⟨_, rfl⟩
          have hUr := u64_range (g 0)
          rw [hU] at hUr
          have hr1 := Int.emod_nonneg U (b := (160 : Int)) (by omega)
          have hr2 := Int.emod_lt_of_pos U (b := (160 : Int)) (by omega)
          have htm : U.tmod 160 = U % 160 := Int.tmod_eq_emod_of_nonneg hUr.1
          generalize U % 160 = r at *
          have hfu := fuse_any w10 L S0 HD.out (r + 1) (by omega)
          clear hcc
          rw [Nat.add_zero] at cz
          go_wp2_with fail
          (with_reducible refine hfu.mono ?_)
          rintro e w11 ⟨rfl, hD11, hK12⟩
          clear hfu
          go_wp2_with fail
          go_meet
          exact ⟨rfl, _, hD11, PicAll.fuse HNO.out _, HB3.out, HOF.out, hsn.1, hsn.2, hK12⟩
        · have hf0' : ¬ (0 : Int) < (n2 : Int) := by omega
          have hf1 : decide ((0 : Int) < (n2 : Int)) = false := by simpa using hf0'
          have hf2 : decide (0 < n2) = false := by simpa using hf0
          go_wp2_with fail
          go_meet
          exact ⟨rfl, _, HD.out, HNO.out, HB3.out, HOF.out, hsn.1, hsn.2, Keep.refl _ _⟩
      case rest =>
      obtain ⟨rfl, S, hDc, hNo, hSn, hSo, hs0, hs1, hKc⟩ := hcut
      have hwr := write_any wc L S hDc 0 64 A c capE Gd (HEN10.out.keep hKc) HGB.out (by omega) (by omega)
      obtain ⟨p1, p2, p3, p4, p5, p6, _⟩ := write_fine HEO.out hSn hSo hNo
      have HHA := Lib.hid p1
      have HWH := Lib.hid p2
      have HP4 := Lib.hid p4
      clear p1 p2 p4 hDc hNo HD HNO HOF HB3 hsn
      generalize writeR S 0 64 Gd c = Q at *
      obtain ⟨Q1, Q2⟩ := Q
      dsimp only at hwr p3 p5 p6 HHA HWH HP4
      have hq1 : 0 ≤ Q1.steps ∧ Q1.steps ≤ 1000 := by omega
      clear p5 p6 hs0 hs1
      have HQ2 := Lib.hid p3
      clear p3
      go_wp2_with fail
      (with_reducible refine hwr.mono ?_)
      rintro e w12 ⟨rfl, hD12, hK12⟩
      have hK13 := hKc.trans hK12
      have HD12 := Lib.hid hD12
      clear hwr hKc hK12 hD12
      go_upto_region 20 with fail
      go_cut [97] (fun s97 wx => s97 = .bool false ∧ w12 = wx)
      case first =>
        rcases HQ2.out with hq | hq
        · have hb1 : (Q2 != 0) = false := by rw [hq]; rfl
          clear hq
          go_wp2_with fail
          go_meet
          exact ⟨rfl, rfl⟩
        · have hb1 : (Q2 != 0) = true := by rw [hq]; rfl
          have hb2 : (Q2 != 7) = false := by rw [hq]; rfl
          clear hq
          go_wp2_with fail
          go_meet
          exact ⟨rfl, rfl⟩
      case rest =>
      obtain ⟨rfl, rfl⟩ := hcut
      generalize wr = wo at *
      go_wp2_with fail
      go_loopw [18] (fun x wr => CdRel w12 L N c Gd F Q2 x wr) (fun x _ => 6 - (intOf x).toNat)
      case atStart => exact ⟨0, Q1, rfl, by omega, HD12.out, HHA.out, HWH.out, HP4.out, hq1.1, by omega, Keep.refl _ _⟩
      case round =>
        obtain ⟨q, S2, rfl, hq6, hD2, hH2, hW2, hn2, ht0, ht1, hK2⟩ := hrel
        have HH2 := Lib.hid hH2
        have HW2 := Lib.hid hW2
        have hKa := hK13.trans hK2
        clear hH2 hW2
        by_cases hlt : q < 6
        · have hlt' : (q : Int) < 6 := by omega
          go_upto_if 105 with fail
          go_cut [19] (fun s19 wx => ∃ (A' : Option Addr) (m' c' : Nat) (p : Nat → Int), s19 = .slice A' m' c' ∧ Pk wr L.own A' m' c' p ∧ wr = wx)
          case first =>
            by_cases hq3 : q < n3
            · obtain ⟨_, _, hcp⟩ := HP10.out
              obtain ⟨b', o', hA', hb', hcc⟩ := hcp (by omega)
              subst hA'
              obtain ⟨A', m', c', e1, p, hp, _⟩ := hcc q hq3
              have hq3' : (q : Int) < (n3 : Int) := by omega
              have e2 := kcell hKa e1 (fun hm => by have := hL7 _ hm; have := HPB.out b' o' rfl (by omega); omega)
              have hp2 : Pk wr L.own A' m' c' p := (hp.out hL7).keep hKa
              clear hcc hcp e1 hp
              go_wp2_with fail
              go_meet
              exact ⟨A', m', c', p, rfl, hp2, rfl⟩
            · have hq3' : ¬ (q : Int) < (n3 : Int) := by omega
              have hq4 : decide ((q : Int) < (n3 : Int)) = false := by simpa using hq3'
              go_wp2_with fail
              go_meet
              exact ⟨none, 0, 0, fun _ => 0, rfl, Pk.none _ _, rfl⟩
          case rest =>
          obtain ⟨A', m', c', p, rfl, hp, rfl⟩ := hcut
          have hcr := crash_any wr L S2 hD2 A' m' c' p hp
          have hfi := half_crash HH2.out p
          have HFI := Lib.hid hfi
          have HW3 := Lib.hid (fun h => PicAll.crash (HW2.out h) p)
          have HC3 := Lib.hid (show (crashS S2 p).n = N from hn2)
          have hc4 : (crashS S2 p).steps = S2.steps := rfl
          have HC5 := Lib.hid (show (crashS S2 p).off = false from rfl)
          rw [← hc4] at ht0 ht1
          clear hfi HH2 HW2 hD2 hp hc4 hn2
          generalize crashS S2 p = S3 at *
          go_wp2_with fail
          (with_reducible refine hcr.mono ?_)
          rintro e w13 ⟨rfl, hD13, hK14⟩
          have HD13 := Lib.hid hD13
          have hKb := hKa.trans hK14
          clear hcr hD13
          go_upto_if 117 with fail
          go_cut [18] (fun s18 wx => s18 = .int .i64 (q : Int) ∧ ∃ S, Dev wx L S ∧ Fine N c Gd F S ∧ (Q2 = 0 → Whole N c Gd F S) ∧ S.n = N ∧ S.off = false ∧ S.steps = S3.steps ∧ Keep L.own w13 wx)
          case first =>
            by_cases hf0 : q + 1 < n2
            · obtain ⟨b', o', hA', hb', hcc⟩ := HI10.out.cells (by omega)
              subst hA'
              have cz := kcell hKb (hcc (q + 1) hf0) (fun hm => by have := hL7 _ hm; have := HIB.out b' o' rfl (by omega); omega)
              have hf0' : (q : Int) + 1 < (n2 : Int) := by omega
              obtain ⟨U, hU⟩ : ∃ U, IntKind.u64.wrap (g (q + 1)) = U := ⟨_, rfl⟩
              have hUr := u64_range (g (q + 1))
              rw [hU] at hUr
              have hr1 := Int.emod_nonneg U (b := (60 : Int)) (by omega)
              have hr2 := Int.emod_lt_of_pos U (b := (60 : Int)) (by omega)
              have htm : U.tmod 60 = U % 60 := Int.tmod_eq_emod_of_nonneg hUr.1
              generalize U % 60 = r at *
              have hfu := fuse_any w13 L S3 HD13.out (r + 1) (by omega)
              clear hcc
              go_wp2_with fail
              (with_reducible refine hfu.mono ?_)
              rintro e w14 ⟨rfl, hD14, hK15⟩
              clear hfu
              go_wp2_with fail
              go_meet
              exact ⟨rfl, _, hD14, HFI.out.fuse _, fun h => PicAll.fuse (HW3.out h) _, HC3.out, HC5.out, rfl, hK15⟩
            · have hf0' : ¬ (q : Int) + 1 < (n2 : Int) := by omega
              have hf1 : decide ((q : Int) + 1 < (n2 : Int)) = false := by simpa using hf0'
              go_wp2_with fail
              go_meet
              exact ⟨rfl, _, HD13.out, HFI.out, HW3.out, HC3.out, HC5.out, rfl, Keep.refl _ _⟩
          case rest =>
          obtain ⟨rfl, S4, hD4, hF4, hW4, hn4, ho4, hs4, hK4⟩ := hcut
          have hrc := recover_any wc L S4 hD4 hF4.wd 0 64 (by omega) (by omega)
          obtain ⟨r1, r2, r3, r4, r5, r6, _⟩ := rec_fine HEO.out hn4 ho4 hF4
          have HR1 := Lib.hid r1
          have HR2 := Lib.hid (fun h => r2 (hW4 h))
          have HR4 := Lib.hid r4
          rw [hs4] at r5 r6
          clear r1 r2 r4 hD4 hF4 hW4
          generalize recR S4 0 64 = R at *
          obtain ⟨R1, R2, R3⟩ := R
          dsimp only at hrc r3 r5 r6 HR1 HR2 HR4
          have hrs : 0 ≤ R1.steps ∧ R1.steps ≤ 1000 + 100 * ((q + 1 : Nat) : Int) := by omega
          clear r5 r6
          go_wp2_with fail
          (with_reducible refine hrc.mono ?_)
          rintro e w15 ⟨rfl, hD15, hK15⟩
          have hKc := ((hK2.trans hK14).trans hK4).trans hK15
          clear hrc
          rcases r3 with h0 | h0
          · have hb1 : (R3 != 0) = false := by rw [h0]; rfl
            clear h0
            go_wp2_with fail
            exact ⟨⟨q + 1, R1, by go_num, by omega, hD15, HR1.out, HR2.out, HR4.out, hrs.1, hrs.2, hKc⟩, by simp [intOf]; omega⟩
          · have hb1 : (R3 != 0) = true := by rw [h0]; rfl
            have hb2 : (R3 != 7) = false := by rw [h0]; rfl
            clear h0
            go_wp2_with fail
            exact ⟨⟨q + 1, R1, by go_num, by omega, hD15, HR1.out, HR2.out, HR4.out, hrs.1, hrs.2, hKc⟩, by simp [intOf]; omega⟩
        · have hlt' : decide ((q : Int) < 6) = false := by simp; omega
          have hcr := crash_any wr L S2 hD2 none 0 0 (fun _ => 0) (Pk.none _ _)
          have hfi := half_crash HH2.out (fun _ => 0)
          have HW3 := Lib.hid (fun h => PicAll.crash (HW2.out h) (fun _ => 0))
          have hc3 : (crashS S2 fun _ => 0).n = N := hn2
          have hc4 : (crashS S2 fun _ => 0).steps = S2.steps := rfl
          have hc5 : (crashS S2 fun _ => 0).off = false := rfl
          have hc6 : Calm (crashS S2 fun _ => 0) := ⟨rfl, rfl⟩
          rw [← hc4] at ht0 ht1
          clear HH2 HW2 hD2 hc4 hn2 hlt
          generalize (crashS S2 fun _ => 0) = S3 at *
          have hrc := fun W hD => recover_any W L S3 hD hfi.wd 0 64 (by omega) (by omega)
          obtain ⟨r1, r2, r3, r4, r5, r6, r7⟩ := rec_fine HEO.out hc3 hc5 hfi
          obtain ⟨s1, s2, s3⟩ := r7 hc6
          have HR2 := Lib.hid (fun h => r2 (HW3.out h))
          have HR4 := Lib.hid r4
          have HR7 := Lib.hid s3
          have HR8 := Lib.hid s2
          have HRC := Lib.hid hrc
          clear r1 r2 r3 r4 hfi HW3 r7 hc3 hc5 hc6 s2 s3 hrc
          generalize recR S3 0 64 = R at *
          obtain ⟨R1, R2, R3⟩ := R
          dsimp only at HRC r5 r6 s1 HR2 HR4 HR7 HR8
          subst s1
          go_wp2_with fail
          (with_reducible refine hcr.mono ?_)
          rintro e w13 ⟨rfl, hD13, hK14⟩
          have hrc := HRC.out w13 hD13
          have hKb := hKa.trans hK14
          clear hcr hD13 HRC
          go_wp2_with fail
          (with_reducible refine hrc.mono ?_)
          rintro e w14 ⟨rfl, hD14, hK15⟩
          have hKc := hKb.trans hK15
          have hwd : Wd R1 := by
            rcases HR7.out with h | h
            · exact PicAll.wd h
            · exact PicAll.wd h
          have hn0 : R1.now 0 = 0 := by
            rcases HR7.out with h | h
            · exact (h 0).1.2.1 rfl
            · exact (h 0).1.2.1 rfl
          have hrc2 := recover_any w14 L R1 hD14 hwd 0 64 (by omega) (by omega)
          rw [rec_clean HR4.out (by omega) HR8.out.1 hn0] at hrc2
          clear hrc hD14
          go_wp2_with fail
          (with_reducible refine hrc2.mono ?_)
          rintro e w15 ⟨rfl, hD15, hK16⟩
          have hKd := hKc.trans hK16
          have hwo := words_any w15 L R1 hD15
          rw [HR4.out] at hwo
          clear hrc2
          go_wp2_with fail
          (with_reducible refine hwo.mono ?_)
          rintro e w16 ⟨gg, capg, rfl, hRg, _, hK17⟩
          clear hwo
          have hRW16 := (HRW10.out.keep hKd hWL).keep hK17 (by simp)
          have hRG16 := (HRG10.out.keep hKd hGL).keep hK17 (by simp)
          have hgc := hRg.cap_le
          have hgm := hRg.cap_max
          unfold maxLen at hgm
          have hkk := (hk11.into hKd hL7).trans hK17
          obtain ⟨dn, hdn⟩ : ∃ dn, eqB m (fun j => R1.sure (64 + j)) (fun j => upd F Gd c (64 + j)) = dn := ⟨_, rfl⟩
          by_cases hm0 : m = 0
          · obtain rfl : N = 64 := by have := HNM.out; omega
            have hgc' : (64 : Int) ≤ (capg : Int) := by omega
            have hWc' : (64 : Int) ≤ (capW : Int) := by omega
            clear HNM hm0 hdn
            go_wp2_with fail
            go_quiet ((go_at_call 23; exact quiet (same_none _ _ _ _ _)))
            have hc0 := (hRg.dr (Dr.drewN w16 nq)).cell (show 0 < 64 by omega)
            have hs0 : R1.sure 0 = 0 := by
              rcases HR7.out with h | h
              · exact (h 0).2.1.2.1 rfl
              · exact (h 0).2.1.2.1 rfl
            have hce : Go.Proofs.Ytejhdmpobaffcaa.u64 R1.sure 0 = .int .u64 0 := by unfold Go.Proofs.Ytejhdmpobaffcaa.u64; rw [hs0]
            rw [hce] at hc0
            have hkd := hkk.trans (Keep.dr (Dr.drewN w16 nq))
            clear hs0 hce hRg hRW16 hRG16 hK17 HR2 HR4 HR7 HR8 hwd hn0 hD15
            generalize w16.drewN nq = w17 at *
            have hcx : ∀ x : KW w17, x.w.cell? ⟨gg, 0, none⟩ = some (.int .u64 0) := fun x => KW.cell hc0 x
            have HAW := Lib.hid (fun x : KW w17 => KW.call (awake_any x.w))
            clear hc0
            go_wp2_with fail
            all_goals
              refine wp_region_grow (by kernel_rfl) (by kernel_rfl) ?_
              repeat (first | go_big_quiet_skip | (go_big_quiet_want; go_big_quiet_op; first | go_big_quiet_on | go_big_quiet_call ((first | (go_at_call 14; exact HAW.out _)))))
              refine wpQuiet_nil ?_
              rintro _ ⟨x, rfl⟩
              go_wp2
              go_ret
              exact ⟨rfl, hkd.trans x.hk⟩
          · have hsm1 := fun n => same_any (w16.drewN n) gg 64 (capg - 64) Wn 64 (capW - 64) m (fun j => R1.sure (64 + j)) (fun j => upd F Gd c (64 + j)) (by omega) (fun j hj => ((hRg.dr (Dr.drewN _ n)).cell (show 64 + j < N by have := HNM.out; omega))) (fun j hj => ((hRW16.dr (Dr.drewN _ n)).cell (show 64 + j < N by have := HNM.out; omega)))
            rw [hdn] at hsm1
            have HS1 := Lib.hid hsm1
            have hN64 : N - 64 = m := by have := HNM.out; omega
            have nc1 : ¬ capg = 64 := by have := HNM.out; omega
            have nc2 : ¬ capW = 64 := by have := HNM.out; omega
            have nc3 : ¬ capG = 64 := by have := HNM.out; omega
            have hN1 : (64 : Int) ≤ (N : Int) := by omega
            have hN2 : (64 : Int) ≤ (capg : Int) := by omega
            have hN3 : (64 : Int) ≤ (capW : Int) := by omega
            clear hsm1
            go_wp2_with fail
            go_quiet ((go_at_call 23; refine quiet (HS1.out _)))
            have hc0 := (hRg.dr (Dr.drewN w16 nq)).cell (show 0 < N by omega)
            have hs0 : R1.sure 0 = 0 := by
              rcases HR7.out with h | h
              · exact (h 0).2.1.2.1 rfl
              · exact (h 0).2.1.2.1 rfl
            have hce : Go.Proofs.Ytejhdmpobaffcaa.u64 R1.sure 0 = .int .u64 0 := by unfold Go.Proofs.Ytejhdmpobaffcaa.u64; rw [hs0]
            rw [hce] at hc0
            have hkd := hkk.trans (Keep.dr (Dr.drewN w16 nq))
            have hsm2 := fun (x : KW (w16.drewN nq)) => KW.call (x := x) ((same_any x.w gg 64 (capg - 64) G0 64 (capG - 64) m (fun j => R1.sure (64 + j)) (fun j => F (64 + j)) (by omega) (fun j hj => (((hRg.dr (Dr.drewN _ nq)).keep x.hk (by simp)).cell (show 64 + j < N by have := HNM.out; omega))) (fun j hj => (((hRG16.dr (Dr.drewN _ nq)).keep x.hk (by simp)).cell (show 64 + j < N by have := HNM.out; omega)))).mono (fun _ _ ⟨a, b⟩ => ⟨a, Keep.dr b⟩))
            have HFIN := Lib.hid (show dn = false → (Q2 != 0) = true ∧ eqB m (fun j => R1.sure (64 + j)) (fun j => F (64 + j)) = true by
              intro h0
              have hnw : ¬ Whole N c Gd F R1 := fun hw => by
                have : eqB m (fun j => R1.sure (64 + j)) (fun j => upd F Gd c (64 + j)) = true := eqB_true.2 (fun j hj => (hw (64 + j)).2.1.2.2.2 (by omega) (by have := HNM.out; omega))
                rw [hdn, h0] at this
                cases this
              constructor
              · have hq : Q2 ≠ 0 := fun h => hnw (HR2.out h)
                simpa using hq
              · rcases HR7.out with h | h
                · exact eqB_true.2 (fun j hj => (h (64 + j)).2.1.2.2.2 (by omega) (by have := HNM.out; omega))
                · exact absurd h hnw)
            have HS2 := Lib.hid hsm2
            clear hsm2 hs0 hce HS1 hRg hRW16 hRG16 hdn hK17 HR2 HR4 HR7 HR8 hwd hn0 hD15
            generalize w16.drewN nq = w17 at *
            have hcx : ∀ x : KW w17, x.w.cell? ⟨gg, 0, none⟩ = some (.int .u64 0) := fun x => KW.cell hc0 x
            have HAW := Lib.hid (fun x : KW w17 => KW.call (awake_any x.w))
            cases dn
            · obtain ⟨e1, e2⟩ := HFIN.out rfl
              have hs3 := HS2.out
              rw [e2] at hs3
              have HS3 := Lib.hid hs3
              clear hs3 HS2 HFIN e2 hc0
              go_wp2_with fail
              refine wp_region_grow (by kernel_rfl) (by kernel_rfl) ?_
              repeat (first | go_big_quiet_skip | (go_big_quiet_want; go_big_quiet_op; first | go_big_quiet_on | go_big_quiet_call ((first | (go_at_call 23; exact HS3.out _) | (go_at_call 14; exact HAW.out _)))))
              refine wpQuiet_nil ?_
              rintro _ ⟨x, rfl⟩
              go_wp2
              go_ret
              exact ⟨rfl, hkd.trans x.hk⟩
            · clear HS2 HFIN hc0
              go_wp2_with fail
              refine wp_region_grow (by kernel_rfl) (by kernel_rfl) ?_
              repeat (first | go_big_quiet_skip | (go_big_quiet_want; go_big_quiet_op; first | go_big_quiet_on | go_big_quiet_call ((first | (go_at_call 14; exact HAW.out _)))))
              refine wpQuiet_nil ?_
              rintro _ ⟨x, rfl⟩
              go_wp2
              go_ret
              exact ⟨rfl, hkd.trans x.hk⟩
end Go.Proofs.Ytejhdmpobaffcaa
