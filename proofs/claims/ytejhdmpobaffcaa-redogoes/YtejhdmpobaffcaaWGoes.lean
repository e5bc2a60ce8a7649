/-
  RedoGoes, walked. No conditions.
-/
import Derived.Test.YtejhdmpobaffcaaWBase
namespace Go.Proofs.Ytejhdmpobaffcaa
open Go.RowKit Go.Flo
set_option maxRecDepth 100000

theorem None_.any {N n n' : Nat} {E E' : Nat → Ent} {A : Nat → Int} {S : St} (h : None_ N n E A S) : None_ N n' E' A S :=
  PicAll.mono (R := Rr N n E (· = 0) false (Is A)) h (fun _ _ hx => ⟨hx.1, hx.2.1, fun e => (by cases e), hx.2.2.2⟩)

/-- May each of the first j entries be? -/
def okTo (N : Nat) (E : Nat → Ent) (j : Nat) : Bool := (List.range j).all fun i => decide (64 ≤ (E i).a) && decide ((E i).a < (N : Int))
theorem okTo_succ (N : Nat) (E : Nat → Ent) (j : Nat) : okTo N E (j + 1) = (okTo N E j && (decide (64 ≤ (E j).a) && decide ((E j).a < (N : Int)))) := by
  unfold okTo
  rw [List.range_succ, List.all_append]
  simp
theorem okTo_true {N j : Nat} {E : Nat → Ent} : okTo N E j = true ↔ ∀ i, i < j → 64 ≤ (E i).a ∧ (E i).a < N := by simp [okTo]

/-- A row that may not be is refused. -/
theorem goes_refused {S : St} {N k : Nat} {E : Nat → Ent} (hN : S.n = N) (h64 : 64 ≤ N) (hN1 : N ≤ 65536) (hk : k ≤ 20) (hEB : EB E k) (h : okTo N E k = false) : writeR S 0 64 E k = (S, 1) := by
  have hm : mayB S.n 0 64 = true := by simp [mayB]; omega
  have hl : leavesB S.n 0 64 E k = false := by
    cases e : leavesB S.n 0 64 E k
    · rfl
    · have h1 := leavesB_true.1 e
      have : okTo N E k = true := okTo_true.2 (fun i hi' => by
        have := (atB_true (by omega) (hEB i hi').1 (hEB i hi').2.1).1 (h1 i hi')
        omega)
      rw [this] at h; cases h
  unfold writeR
  rw [if_neg (by rw [hm]; simp), if_neg (by simp [holdsB]; omega), if_pos hl]

def GoRel (w : World) (L : Loc) (N Wn capW n1 : Nat) (x : Value) (wr : World) : Prop :=
  ∃ (i : Nat) (S : St) (A : Nat → Int), x = .int .i64 i ∧ i ≤ n1 ∧ Dev wr L S ∧ Calm S ∧ S.n = N ∧ None_ N 0 (fun _ => ⟨0, 0⟩) A S ∧ 0 ≤ S.steps ∧ S.steps ≤ 500 + 200 * (min i 6 : Nat) ∧ Row wr 44 Wn N capW (u64 A) ∧ Keep (Wn :: L.own) w wr
def OkRel (w : World) (N k : Nat) (E : Nat → Ent) (x y : Value) (wr : World) : Prop := ∃ j : Nat, x = .int .i64 j ∧ y = .bool (okTo N E j) ∧ j ≤ k ∧ Keep [] w wr
def WtRel (w : World) (N Wn capW k : Nat) (E : Nat → Ent) (A : Nat → Int) (x : Value) (wr : World) : Prop := ∃ j : Nat, x = .int .i64 j ∧ j ≤ k ∧ Row wr 44 Wn N capW (u64 (upd A E j)) ∧ Keep [Wn] w wr

set_option maxHeartbeats 8000000 in
theorem walk_goes (w : World) (A0 : Option Addr) (n0 cap0 : Nat) (f : Nat → Int) (hW : Wds w A0 n0 cap0 f) (hf : ∀ j, 0 ≤ f j ∧ f j < 18446744073709551616) (A1 : Option Addr) (n1 cap1 : Nat) (hE : IsRows IsEnts w A1 n1 cap1)
    (A2 : Option Addr) (n2 cap2 : Nat) (p : Nat → Int) (hP : Pk w [] A2 n2 cap2 p) :
    Calls Try.prog 8 #[.slice A0 n0 cap0, .slice A1 n1 cap1, .slice A2 n2 cap2] w fun e w' => e = .returned (.bool true) ∧ Keep [] w w' := by
  obtain ⟨i0, hi0, hz0, hz1, hz2⟩ := info_parts parts28
  have hm1 : (Instr.makeSlice 25 (.int .i64 64) (.int .i64 64)).run Try.prog w = _ := mk_words 64 (by omega) w
  have hmr := made_row w 64 (by omega)
  have k0 : Keep [] w (w.alloc (.cells (madeCells (Value.int .u64 0).cells (64 * 1)) 44)) := Keep.alloc _ _
  have hcap0 := hW.cap
  have hnc0 := hW.nc
  have hcap1 := hE.2.1
  have hnc1 := hE.1
  have hcap2 := hP.cap
  have hnc2 := hP.mc
  have hs0 : w.heap.size ≤ (w.alloc (.cells (madeCells (Value.int .u64 0).cells (64 * 1)) 44)).heap.size := by simp
  generalize madeCells (Value.int .u64 0).cells (64 * 1) = Z at *
  have HMR := Lib.hid hmr
  have HW := Lib.hid hW
  have HE := Lib.hid hE
  have HP := Lib.hid hP
  clear hmr hW hE hP
  go_enter Try.func8, Try.ntmps8
  go_upto_if 24 with fail
  go_cut [0] (fun s0 wx => ∃ m, s0 = .slice A0 m cap0 ∧ m ≤ n0 ∧ m ≤ 40 ∧ w = wx)
  case first =>
    by_cases h60 : 40 < n0
    · obtain ⟨b, o, hA0, hb, _⟩ := HW.out.cells (by omega)
      subst hA0
      have h60' : (40 : Int) < (n0 : Int) := by omega
      go_wp2_with fail
      go_meet
      exact ⟨40, rfl, by omega, by omega, rfl⟩
    · have h60' : ¬ (40 : Int) < (n0 : Int) := by omega
      go_wp2_with fail
      go_meet
      exact ⟨n0, rfl, by omega, by omega, rfl⟩
  case rest =>
  obtain ⟨m, rfl, hm, hm60, rfl⟩ := hcut
  have hWm := Lib.hid ((HW.out.sub hm).keep k0)
  have hcl : (rowR 64 fun _ => 0) ++ rowR m f = rowR (64 + m) (cat 64 (fun _ => 0) f) := rowR_cat 64 m _ f
  have HCL := Lib.hid hcl
  clear hcl
  go_wp2_with (at_builtin; refine wpList_append_src rfl (.tmp 27) (.tmp 28) 25 rfl w.heap.size 44 i0 (.int .u64 0) 1 8 Try.underlying25 hi0 hz0 hz1 hz2 rfl (by omega) _ 64 (rowR 64 fun _ => 0) rfl HMR.out A0 m cap0 (rowR m f) rfl (by rw [rowR_len]; omega) hWm.out.nil hWm.out.news (rowR_one _ _) (by simp [maxLen]; omega) (by omega) hs0 ?_)
  intro v4 w4 hown4 hgrow4
  have hrow : w4.ownsRow w.heap.size 44 1 v4 (64 + m) (rowR (64 + m) (cat 64 (fun _ => 0) f)) := by
    rw [← HCL.out]
    exact hown4
  have hk4 : Keep [] w w4 := k0.into (Keep.grown (own := [w.heap.size]) hgrow4 (fun k _ e => by simp [Value.ownBlock] at e; simp [e])) (by simp)
  obtain ⟨G0, capG, rfl, hR, hG⟩ := rowR_row hrow (by omega)
  obtain ⟨F, hF⟩ : ∃ F : Nat → Int, F = cat 64 (fun _ => 0) f := ⟨_, rfl⟩
  rw [← hF] at hR
  have hF0 : F 0 = 0 := by rw [hF]; simp [cat]
  have hFn : ∀ j, 0 ≤ F j := fun j => by
    rw [hF]; unfold cat; split
    · exact Int.le_refl 0
    · exact (hf _).1
  obtain ⟨N, hN⟩ : ∃ N, N = 64 + m := ⟨_, rfl⟩
  rw [← hN] at hR ⊢
  have hNb : 64 ≤ N ∧ N ≤ 104 := by omega
  have hNm : (64 : Int) + (m : Int) = (N : Int) := by omega
  have HNM := Lib.hid hNm
  have HR := Lib.hid hR
  have HFN := Lib.hid hFn
  have HF0 := Lib.hid hF0
  have hGc := hR.cap_le
  have hGm := hR.cap_max
  unfold maxLen at hGm
  have hld := laid_any w4 (some ⟨G0, 0, none⟩) N capG F (Wds.row hR) (by omega)
  clear hown4 hgrow4 hWm hrow HCL HMR hF hN hFn hF0 hm1 HW hm k0 hs0 hNm hR
  go_wp2_with fail
  (with_reducible refine hld.mono ?_)
  rintro e w5 ⟨L, T, rfl, hD, hT, hLf, hTf, hTl, hK5⟩
  have hk5 := hk4.trans hK5
  have hL7 : ∀ k ∈ L.own, w.heap.size ≤ k := fun k hk => by have := hLf k hk; have := hk4.size; omega
  have hGL : G0 ∉ L.own := fun hm => by have := hLf G0 hm; have := HR.out.lt; omega
  obtain ⟨b1, b2, b3, b4⟩ := laidS_facts N F
  have hsn : 0 ≤ (laidS N F).steps ∧ (laidS N F).steps ≤ 500 := by rw [b2]; unfold nl; omega
  have hnone : None_ N 0 (fun _ => ⟨0, 0⟩) F (laidS N F) := laid_none (by omega) HF0.out (fun j _ => HFN.out j)
  have HRG := Lib.hid (HR.out.keep hK5 (by simp))
  have hLl := hD.lt
  clear hld hT hLf hTf hTl hK5 b2 b4 HR
  have HD := Lib.hid hD
  have HNO := Lib.hid hnone
  have HB1 := Lib.hid b1
  have HB3 := Lib.hid b3
  clear hD hnone b1 b3
  generalize laidS N F = S0 at *
  go_wp2_with (at_builtin; refine wpList_append_src rfl (.const (.slice none 0 0)) (.tmp 35) 25 rfl w5.heap.size 44 i0 (.int .u64 0) 1 8 Try.underlying25 hi0 hz0 hz1 hz2 rfl (by omega) _ 0 [] rfl (World.ownsRow_nil _ _ _ _) (some ⟨G0, 0, none⟩) N capG (rowR N F) rfl (by rw [rowR_len]; omega) (by simp) (fun ad had => by injection had with had; subst had; exact rowR_cells HRG.out) (rowR_one _ _) (by simp [maxLen]; omega) (by omega) (Nat.le_refl _) ?_)
  intro v6 w6 hown6 hgrow6
  replace hown6 : w6.ownsRow w5.heap.size 44 1 v6 N (rowR N F) := by simpa using hown6
  have hk6' : Keep [] w5 w6 := nil_keptR hgrow6 rfl
  obtain ⟨Wn, capW, rfl, hRW, hWn⟩ := rowR_row hown6 (by omega)
  have HRW := Lib.hid hRW
  have HD6 := Lib.hid (HD.out.keep hk6' (by simp))
  have HRG6 := Lib.hid (HRG.out.keep hk6' (by simp))
  have hWL : Wn ∉ L.own := fun hm => by have := hLl Wn hm; omega
  have hGW : G0 ≠ Wn := by have := HRG.out.lt; omega
  have hWc := hRW.cap_le
  have hWm := hRW.cap_max
  unfold maxLen at hWm
  have hk6 := hk5.trans hk6'
  have hW7 : ∀ k ∈ Wn :: L.own, w.heap.size ≤ k := fun k hk => by
    rcases List.mem_cons.1 hk with h | h
    · subst h; have := hk5.size; omega
    · exact hL7 k h
  have HW7 := Lib.hid hW7
  clear hown6 hgrow6 hRW HRG HD hk6' hLl hk5 hW7
  go_wp2_with fail
  go_loopw [39] (fun x wr => GoRel w6 L N Wn capW n1 x wr) (fun x _ => n1 - (intOf x).toNat)
  case atStart => exact ⟨0, S0, F, rfl, by omega, HD6.out, HB1.out, HB3.out, HNO.out, hsn.1, by have := hsn.2; omega, HRW.out, Keep.refl _ _⟩
  case round =>
    obtain ⟨i, S, A, rfl, hi1, hD1, hC1, hn1', hNo1, st0, st1, hRw1, hK1⟩ := hrel
    have HD1 := Lib.hid hD1
    have HC1 := Lib.hid hC1
    have HN1 := Lib.hid hn1'
    have HNO1 := Lib.hid hNo1
    have HRW1 := Lib.hid hRw1
    have hk1 : Keep [] w wr := hk6.into hK1 HW7.out
    clear hD1 hC1 hn1' hNo1 hRw1 HD6 HNO HB1 HB3 hsn HRW
    by_cases hlt : i < n1
    · obtain ⟨_, _, hcp⟩ := HE.out
      obtain ⟨b', o', hA', hb', hcc⟩ := hcp (by omega)
      subst hA'
      obtain ⟨A', k, c', e1, E, hEn, hEB⟩ := hcc i hlt
      have hlt' : (i : Int) < (n1 : Int) := by omega
      have e2 : wr.cell? ⟨b', o' + i, none⟩ = some (.slice A' k c') := (hk1.cell (p := ⟨b', o' + i, none⟩) hb' (by simp)).trans e1
      have HEN := Lib.hid hEn
      have hec := hEn.cap
      have hen := hEn.nc
      clear hcc hcp e1 hEn
      by_cases h6 : 6 ≤ i
      · have h6' : (6 : Int) ≤ (i : Int) := by omega
        go_wp2_with fail
        exact ⟨⟨i + 1, S, A, by go_num, by omega, HD1.out, HC1.out, HN1.out, HNO1.out, st0, by omega, HRW1.out, hK1⟩, by simp [intOf]; omega⟩
      have h6' : ¬ (6 : Int) ≤ (i : Int) := by omega
      by_cases h20 : 20 < k
      · have h20' : (20 : Int) < (k : Int) := by omega
        go_wp2_with fail
        exact ⟨⟨i + 1, S, A, by go_num, by omega, HD1.out, HC1.out, HN1.out, HNO1.out, st0, by omega, HRW1.out, hK1⟩, by simp [intOf]; omega⟩
      have h20' : ¬ (20 : Int) < (k : Int) := by omega
      generalize wr = wo at *
      have HLF := Lib.hid hL7
      go_wp2_with fail
      go_loopw [53, 13] (fun x y wr => OkRel wo N k E x y wr) (fun x _ _ => k - (intOf x).toNat)
      case atStart => exact ⟨0, rfl, by simp [okTo], by omega, Keep.refl _ _⟩
      case round =>
        obtain ⟨j, rfl, rfl, hjk, hK2⟩ := hrel
        by_cases hj : j < k
        · obtain ⟨b2, o2, hA2, _, hb2, hcc⟩ := (HEN.out.lift (own := []) (hk1.trans hK2) (by simp)).cells (by omega)
          subst hA2
          obtain ⟨c0, c1⟩ := hcc j hj
          have hj' : (j : Int) < (k : Int) := by omega
          have ki : Keep [] wr (wr.alloc (.cells #[.int .i64 (E j).a, .int .u64 (E j).v] 46)) := Keep.alloc _ _
          have HSUC := Lib.hid (okTo_succ N E j)
          have hK3 := hK2.trans ki
          clear hcc e2
          cases hbd : okTo N E j
          · have HB := Lib.hid (show okTo N E (j + 1) = false by rw [HSUC.out, hbd]; simp)
            clear hbd HSUC
            go_wp2_with fail
            exact ⟨⟨j + 1, by go_num, by rw [HB.out], by omega, hK3⟩, by simp [intOf]; omega⟩
          · by_cases h1 : 64 ≤ (E j).a
            · by_cases h2 : (E j).a < (N : Int)
              · have HB := Lib.hid (show okTo N E (j + 1) = true by rw [HSUC.out, hbd]; simp [h1, h2])
                clear hbd HSUC
                go_wp2_with fail
                exact ⟨⟨j + 1, by go_num, by rw [HB.out], by omega, hK3⟩, by simp [intOf]; omega⟩
              · have HB := Lib.hid (show okTo N E (j + 1) = false by rw [HSUC.out, hbd]; simp [h2])
                have h2' : (N : Int) ≤ (E j).a := by omega
                clear hbd HSUC h2
                go_wp2_with fail
                exact ⟨⟨j + 1, by go_num, by rw [HB.out]; simp; omega, by omega, hK3⟩, by simp [intOf]; omega⟩
            · have HB := Lib.hid (show okTo N E (j + 1) = false by rw [HSUC.out, hbd]; simp [h1])
              have h1' : decide (64 ≤ (E j).a) = false := by simpa using h1
              have h1'' : (E j).a < 64 := by omega
              clear hbd HSUC h1
              go_wp2_with fail
              exact ⟨⟨j + 1, by go_num, by rw [HB.out], by omega, hK3⟩, by simp [intOf]; omega⟩
        · have hjk2 : j = k := by omega
          have hnl : ¬ (j : Int) < (k : Int) := by omega
          have hwr := write_any wr L S (HD1.out.keep hK2 (by simp)) 0 64 A' k c' E (HEN.out.lift (hk1.trans hK2) HLF.out) hEB (by omega) (by omega)
          rw [hjk2]
          have hnl' : ¬ (k : Int) < (k : Int) := by omega
          clear hjk2 hj hnl
          have hmin : ((min (i + 1) 6 : Nat) : Int) = (min i 6 : Nat) + 1 := by omega
          cases hok : okTo N E k
          · rw [goes_refused HN1.out (by omega) (by omega) (by omega) hEB hok] at hwr
            clear hok
            go_wp2_with fail
            (with_reducible refine hwr.mono ?_)
            rintro e w8 ⟨rfl, hD8, hK8⟩
            have hR8 := (HRW1.out.keep hK2 (by simp)).keep hK8 hWL
            have hK9 : Keep (Wn :: L.own) w6 w8 := (hK1.trans hK2.of_nil).trans (hK8.mono (fun _ _ h => List.mem_cons_of_mem _ h))
            have HX := Lib.hid hR8
            clear hwr hR8
            go_wp2_with fail
            exact ⟨⟨i + 1, S, A, by go_num, by omega, hD8, HC1.out, HN1.out, HNO1.out, st0, by omega, HX.out, hK9⟩, by simp [intOf]; omega⟩
          · have hEO : EOk N k E := ⟨by omega, by omega, by omega, okTo_true.1 hok, fun j hj => (hEB j hj).2.2.1⟩
            obtain ⟨p1, p2, p3, p4, p5, p6, p7⟩ := write_fine hEO HN1.out HC1.out.1 (HNO1.out.any (n' := k) (E' := E))
            obtain ⟨q1, q2⟩ := p7 HC1.out
            rw [q1] at hwr
            have HWH := Lib.hid (None_.any (n' := 0) (E' := fun _ => ⟨0, 0⟩) (p2 q1))
            have HOK := Lib.hid (okTo_true.1 hok)
            clear hok p1 p2 p3 p7 hEO q1
            generalize (writeR S 0 64 E k).1 = Q1 at *
            go_wp2_with fail
            (with_reducible refine hwr.mono ?_)
            rintro e w8 ⟨rfl, hD8, hK8⟩
            have hR8 := (HRW1.out.keep hK2 (by simp)).keep hK8 hWL
            have HX := Lib.hid hR8
            have HD8 := Lib.hid hD8
            have hk8 : Keep [] w w8 := (hk1.trans hK2).into hK8 HLF.out
            have hK9 : Keep (Wn :: L.own) w6 w8 := (hK1.trans hK2.of_nil).trans (hK8.mono (fun _ _ h => List.mem_cons_of_mem _ h))
            have hwW : w.heap.size ≤ Wn := HW7.out Wn (by simp)
            clear hwr hR8 hD8 e2
            generalize wr = wp at *
            go_wp2_with fail
            go_loopw [89] (fun x wr => WtRel w8 N Wn capW k E A x wr) (fun x _ => k - (intOf x).toNat)
            case atStart => exact ⟨0, rfl, by omega, HX.out, Keep.refl _ _⟩
            case round =>
              obtain ⟨j, rfl, hjk, hRj, hKj⟩ := hrel
              by_cases hj : j < k
              · obtain ⟨b2, o2, hA2, _, hb2, hcc⟩ := (HEN.out.lift (own := []) (hk8.into hKj (by simpa using hwW)) (by simp)).cells (by omega)
                subst hA2
                obtain ⟨c0, c1⟩ := hcc j hj
                have hj' : (j : Int) < (k : Int) := by omega
                have hEj := HOK.out j hj
                obtain ⟨t, ht⟩ : ∃ t : Nat, (E j).a = t := ⟨(E j).a.toNat, by omega⟩
                rw [ht] at c0 hEj
                have hjn : E j = ⟨(t : Int), (E j).v⟩ := by rw [← ht]
                obtain ⟨vv, hvv⟩ : ∃ vv, vv = (E j).v := ⟨_, rfl⟩
                rw [← hvv] at c1 hjn
                have ki : Keep [] wr (wr.alloc (.cells #[.int .i64 (t : Int), .int .u64 vv] 46)) := Keep.alloc _ _
                have hRk := hRj.keep ki (by simp)
                have hx0 := hRk.cell (show t < N by omega)
                have hz8 := hRk.frozen t
                have hbl := hRj.lt
                have hne : ¬ Wn = wr.heap.size := by omega
                have hRs : Row (wr.setCell ⟨Wn, t, none⟩ (.int .u64 vv)) 44 Wn N capW (Go.Proofs.Ytejhdmpobaffcaa.u64 (upd A E (j + 1))) := (hRj.set_ t _).congr (fun q _ => by
                  unfold Go.Proofs.Ytejhdmpobaffcaa.u64
                  simp only [upd]
                  rw [hjn]
                  dsimp only
                  by_cases e : q = t
                  · rw [if_pos e, if_pos (by omega)]
                  · rw [if_neg e, if_neg (by omega)])
                have hRn := hRs.keep (own := []) (Keep.alloc _ (.cells #[.int .i64 (t : Int), .int .u64 vv] 46)) (by simp)
                have hKn : Keep [Wn] w8 ((wr.setCell ⟨Wn, t, none⟩ (.int .u64 vv)).alloc (.cells #[.int .i64 (t : Int), .int .u64 vv] 46)) := (hKj.trans (Keep.setCell _ _ (by simp) _)).trans (Keep.alloc _ _)
                have H1 := Lib.hid hRn
                unfold Go.Proofs.Ytejhdmpobaffcaa.u64 at hx0
                clear hcc ht hjn hvv hRn hRk hRj hRs
                go_wp2_with fail
                exact ⟨⟨j + 1, by go_num, by omega, H1.out, hKn⟩, by simp [intOf]; omega⟩
              · have hjk2 : j = k := by omega
                have hnl : ¬ (j : Int) < (k : Int) := by omega
                rw [hjk2] at hRj
                have HX2 := Lib.hid hRj
                have HD9 := Lib.hid (HD8.out.keep hKj (by simpa using hWL))
                have hK10 : Keep (Wn :: L.own) w6 wr := hK9.trans (hKj.mono (fun _ _ h => by rw [List.mem_singleton] at h; rw [h]; simp))
                have HHM := Lib.hid hmin
                clear hRj hjk2 hmin
                go_wp2_with fail
                exact ⟨⟨i + 1, Q1, upd A E k, by go_num, by omega, HD9.out, q2, p4, HWH.out, by omega, by have := HHM.out; omega, HX2.out, hK10⟩, by simp [intOf]; omega⟩
    · have hnl : ¬ (i : Int) < (n1 : Int) := by omega
      have hcr := crash_any wr L S HD1.out A2 n2 cap2 p (HP.out.lift hk1 hL7)
      have hnc : None_ N 0 (fun _ => ⟨0, 0⟩) A (crashS S p) := PicAll.crash HNO1.out p
      have hcn : (crashS S p).n = N := HN1.out
      have hco : (crashS S p).off = false := rfl
      have HNC := Lib.hid hnc
      have HCN := Lib.hid hcn
      have hcl := fun W hD => clean_any W L (crashS S p) hD 0 64
      have hcv : cleanR (crashS S p) 0 64 = (true, 0) := by
        have hm : mayB (crashS S p).n 0 64 = true := by rw [hcn]; simp [mayB]; omega
        have h0 : (crashS S p).now (0 : Int).toNat = 0 := (hnc 0).1.2.1 rfl
        unfold cleanR
        rw [if_neg (by rw [hm]; simp), if_neg (by rw [hco]; simp), h0]
        rfl
      rw [hcv] at hcl
      have HCC := Lib.hid hcl
      clear hnc hcn hco hcl hcv HD1 HC1 HN1 HNO1
      generalize crashS S p = S' at *
      go_wp2_with fail
      (with_reducible refine hcr.mono ?_)
      rintro e w8 ⟨rfl, hD8, hK8⟩
      have hcl := HCC.out w8 hD8
      have hk8 : Keep [] w w8 := hk1.into hK8 hL7
      clear hcr HCC
      go_wp2_with fail
      (with_reducible refine hcl.mono ?_)
      rintro e w9 ⟨rfl, hK9⟩
      have hwo := words_any w9 L S' (hD8.keep hK9 (by simp))
      rw [HCN.out] at hwo
      clear hcl
      go_wp2_with fail
      (with_reducible refine hwo.mono ?_)
      rintro e w16 ⟨gg, capg, rfl, hRg, _, hK17⟩
      have hKd := (hK8.trans hK9.of_nil).trans hK17.of_nil
      have hRW16 := HRW1.out.keep hKd hWL
      have hgc := hRg.cap_le
      have hgm := hRg.cap_max
      unfold maxLen at hgm
      have hkk := (hk8.trans hK9).trans hK17
      have HAW := Lib.hid (fun x : KW w16 => KW.call (awake_any x.w))
      have hsm : ∀ (x : KW w16) (B B' : Option Addr) (c c' : Nat), (0 < m → B = some ⟨gg, 64, none⟩ ∧ B' = some ⟨Wn, 64, none⟩) → Calls Try.prog 23 #[.slice B m c, .slice B' m c'] x.w fun e w'' => e = .returned (.bool true) ∧ ∃ y : KW w16, w'' = y.w := by
        intro x B B' c c' hB
        rcases Nat.eq_zero_or_pos m with h0 | h0
        · subst h0
          exact KW.call ((same_none x.w B B' c c').mono (fun _ _ ⟨a, b⟩ => ⟨a, Keep.dr b⟩))
        · obtain ⟨rfl, rfl⟩ := hB h0
          have he : eqB m (fun j => S'.sure (64 + j)) (fun j => A (64 + j)) = true := eqB_true.2 (fun j hj => (HNC.out (64 + j)).2.1.2.2.2 (by omega) (by have := HNM.out; omega))
          have hs := same_any x.w gg 64 c Wn 64 c' m (fun j => S'.sure (64 + j)) (fun j => A (64 + j)) (by omega) (fun j hj => ((hRg.keep x.hk (by simp)).cell (show 64 + j < N by have := HNM.out; omega))) (fun j hj => ((hRW16.keep x.hk (by simp)).cell (show 64 + j < N by have := HNM.out; omega)))
          rw [he] at hs
          exact KW.call (hs.mono (fun _ _ ⟨a, b⟩ => ⟨a, Keep.dr b⟩))
      have HSM := Lib.hid hsm
      clear hwo hsm hRW16 hRg HNC HCN hD8 hKd HRW1
      by_cases hm0 : m = 0
      · obtain rfl : N = 64 := by have := HNM.out; omega
        subst hm0
        have hgc' : (64 : Int) ≤ (capg : Int) := by omega
        have hWc' : (64 : Int) ≤ (capW : Int) := by omega
        clear HNM
        by_cases hx1 : capg = 64
        · by_cases hx2 : capW = 64
          · go_wp2_with fail
            refine wp_region_grow (by kernel_rfl) (by kernel_rfl) ?_
            repeat (first | go_big_quiet_skip | (go_big_quiet_want; go_big_quiet_op; first | go_big_quiet_on | go_big_quiet_call ((first | (go_at_call 23; exact HSM.out _ _ _ _ _ (by simp)) | (go_at_call 14; exact HAW.out _)))))
            refine wpQuiet_nil ?_
            rintro _ ⟨x, rfl⟩
            go_wp2
            go_ret
            exact ⟨rfl, hkk.trans x.hk⟩
          · go_wp2_with fail
            refine wp_region_grow (by kernel_rfl) (by kernel_rfl) ?_
            repeat (first | go_big_quiet_skip | (go_big_quiet_want; go_big_quiet_op; first | go_big_quiet_on | go_big_quiet_call ((first | (go_at_call 23; exact HSM.out _ _ _ _ _ (by simp)) | (go_at_call 14; exact HAW.out _)))))
            refine wpQuiet_nil ?_
            rintro _ ⟨x, rfl⟩
            go_wp2
            go_ret
            exact ⟨rfl, hkk.trans x.hk⟩
        · by_cases hx2 : capW = 64
          · go_wp2_with fail
            refine wp_region_grow (by kernel_rfl) (by kernel_rfl) ?_
            repeat (first | go_big_quiet_skip | (go_big_quiet_want; go_big_quiet_op; first | go_big_quiet_on | go_big_quiet_call ((first | (go_at_call 23; exact HSM.out _ _ _ _ _ (by simp)) | (go_at_call 14; exact HAW.out _)))))
            refine wpQuiet_nil ?_
            rintro _ ⟨x, rfl⟩
            go_wp2
            go_ret
            exact ⟨rfl, hkk.trans x.hk⟩
          · go_wp2_with fail
            refine wp_region_grow (by kernel_rfl) (by kernel_rfl) ?_
            repeat (first | go_big_quiet_skip | (go_big_quiet_want; go_big_quiet_op; first | go_big_quiet_on | go_big_quiet_call ((first | (go_at_call 23; exact HSM.out _ _ _ _ _ (by simp)) | (go_at_call 14; exact HAW.out _)))))
            refine wpQuiet_nil ?_
            rintro _ ⟨x, rfl⟩
            go_wp2
            go_ret
            exact ⟨rfl, hkk.trans x.hk⟩
      · have hN64 : N - 64 = m := by have := HNM.out; omega
        have nc1 : ¬ capg = 64 := by have := HNM.out; omega
        have nc2 : ¬ capW = 64 := by have := HNM.out; omega
        have hN1 : (64 : Int) ≤ (N : Int) := by omega
        have hN2 : (64 : Int) ≤ (capg : Int) := by omega
        have hN3 : (64 : Int) ≤ (capW : Int) := by omega
        clear HNM hm0
        go_wp2_with fail
        refine wp_region_grow (by kernel_rfl) (by kernel_rfl) ?_
        repeat (first | go_big_quiet_skip | (go_big_quiet_want; go_big_quiet_op; first | go_big_quiet_on | go_big_quiet_call ((first | (go_at_call 23; exact HSM.out _ _ _ _ _ (by simp)) | (go_at_call 14; exact HAW.out _)))))
        refine wpQuiet_nil ?_
        rintro _ ⟨x, rfl⟩
        go_wp2
        go_ret
        exact ⟨rfl, hkk.trans x.hk⟩
end Go.Proofs.Ytejhdmpobaffcaa
