/-
  RedoLast, walked. No conditions.
-/
import Derived.Test.YtejhdmpobaffcaaWBase
namespace Go.Proofs.Ytejhdmpobaffcaa
open Go.RowKit Go.Flo
set_option maxRecDepth 100000

/-- How many of the first n entries go to x? -/
def cntE (E : Nat → Ent) : Nat → Int → Int
  | 0, _ => 0
  | k + 1, x => cntE E k x + if x = (E k).a then 1 else 0
theorem cntE_range (E : Nat → Ent) (n : Nat) (x : Int) : 0 ≤ cntE E n x ∧ cntE E n x ≤ n := by
  induction n with
  | zero => simp [cntE]
  | succ n ih => simp only [cntE]; split <;> omega
theorem cntE_one {E : Nat → Ent} {n j : Nat} {x : Int} (hj : j < n) (h : (E j).a = x) : 1 ≤ cntE E n x := by
  induction n with
  | zero => omega
  | succ n ih =>
    simp only [cntE]
    have := cntE_range E n x
    by_cases e : j = n
    · subst e; rw [if_pos h.symm]; omega
    · have := ih (by omega)
      split <;> omega
theorem cntE_two {E : Nat → Ent} {n j k : Nat} {x : Int} (hj : j < k) (hk : k < n) (h1 : (E j).a = x) (h2 : (E k).a = x) : 2 ≤ cntE E n x := by
  induction n with
  | zero => omega
  | succ n ih =>
    simp only [cntE]
    by_cases e : k = n
    · subst e
      have := cntE_one hj h1
      rw [if_pos h2.symm]; omega
    · have := ih (by omega)
      split <;> omega
theorem upd_one {A : Nat → Int} {E : Nat → Ent} {n j i : Nat} (hj : j < n) (h : (E j).a = i) (hu : ∀ k, k < n → (E k).a = i → k = j) : upd A E n i = (E j).v := by
  induction n with
  | zero => omega
  | succ n ih =>
    simp only [upd]
    by_cases e : j = n
    · subst e; rw [if_pos h.symm]
    · have hne : ¬ (i : Int) = (E n).a := fun h' => by have := hu n (by omega) h'.symm; omega
      rw [if_neg hne]
      exact ih (by omega) (fun k hk => hu k (by omega))
/-- Backwards. -/
def revE (E : Nat → Ent) (n j : Nat) : Ent := E (n - 1 - j)
theorem last_same {A : Nat → Int} {E : Nat → Ent} {n i : Nat} (h : cntE E n i < 2) : upd A E n i = upd A (revE E n) n i := by
  by_cases hx : isAt E n i
  · obtain ⟨j, hj, e⟩ := hx
    have hu : ∀ k, k < n → (E k).a = i → k = j := fun k hk hk2 => by
      rcases Nat.lt_trichotomy k j with h1 | h1 | h1
      · have := cntE_two h1 hj hk2 e; omega
      · exact h1
      · have := cntE_two h1 hk e hk2; omega
    rw [upd_one hj e hu]
    have hj2 : n - 1 - (n - 1 - j) = j := by omega
    rw [upd_one (j := n - 1 - j) (by omega) (by unfold revE; rw [hj2]; exact e) (fun k hk hk2 => by
      unfold revE at hk2
      have := hu (n - 1 - k) (by omega) hk2
      omega)]
    unfold revE
    rw [hj2]
  · have hx2 : ¬ isAt (revE E n) n i := fun ⟨j, hj, e⟩ => hx ⟨n - 1 - j, by omega, e⟩
    rw [upd_not hx, upd_not hx2]

def LsRel (w : World) (M N Wn capW n1 : Nat) (G : Nat → Ent) (F : Nat → Int) (x y : Value) (wr : World) : Prop :=
  ∃ (i : Nat) (h : Int → Bool) (sz : Nat), x = .int .i64 i ∧ i ≤ n1 ∧ wr.ownsRow (M + 1) 46 2 y (min i 20) (entsR G (min i 20)) ∧ Row wr 44 Wn N capW (u64 (upd F G (min i 20))) ∧ IMap wr M (min i 20) h (cntE G (min i 20)) sz ∧ Keep [Wn] w wr ∧ M < wr.heap.size
def BkRel (w : World) (B c : Nat) (G : Nat → Ent) (x y : Value) (wr : World) : Prop :=
  ∃ j : Nat, x = .int .i64 j ∧ j ≤ c ∧ wr.ownsRow B 46 2 y j (entsR (revE G c) j) ∧ Keep [] w wr
def CmRel (w : World) (N : Nat) (x : Value) (wr : World) : Prop := ∃ i : Nat, x = .int .i64 i ∧ 64 ≤ i ∧ i ≤ N ∧ Keep [] w wr

theorem IMap.run {w : World} {b n : Nat} {h : Int → Bool} {c : Int → Int} {sz : Nat} (hm : IMap w b n h c sz) (k : Int) (hk : (Lit.int .i64 k).wf = true) : (Instr.lookup 62 (.map (some b)) (.int .i64 k) false).run Try.prog w = .ok (.int .i64 (c k)) w := by
  obtain ⟨D, h1, h2, h3, h4⟩ := hm
  obtain ⟨y, hrun, hat, _⟩ := h1.lookup_int lawInt Try.underlying62 Try.underlying3 (zeroInt w) (Go.Maps.keyOf_int_mk Try.underlying3 hk)
  rw [h3 k] at hat
  injection hat with hat
  injection hat with _ hat
  rw [hat]
  exact hrun

theorem rowR_three : rowR 3 (fun j => (j : Int) + 1) = [.int .u64 1, .int .u64 2, .int .u64 3] := rfl
theorem three_new (W : World) (H : Nat) (hH : H = W.heap.size) : ∀ ad, some (⟨H, 0, none⟩ : Addr) = some ad → ∀ j u, (rowR 3 (fun j => (j : Int) + 1))[j]? = some u → (W.alloc (.cells #[.int .u64 1, .int .u64 2, .int .u64 3] 44)).cell? (ad.add j) = some u := by
  intro ad had j u hu
  injection had with had
  subst had hH
  rw [addr_none, (Blk.new W 44 #[.int .u64 1, .int .u64 2, .int .u64 3]).cell, Nat.zero_add]
  rw [rowR_three] at hu
  simpa using hu

set_option maxHeartbeats 8000000 in
theorem walk_last (w : World) (A0 : Option Addr) (n0 cap0 : Nat) (f : Nat → Int) (hW : Wds w A0 n0 cap0 f) (hf : ∀ j, 0 ≤ f j ∧ f j < 18446744073709551616) (A1 : Option Addr) (n1 cap1 : Nat) (E : Nat → Ent) (hE : Ents w [] A1 n1 cap1 E) (hEB : EB E n1) :
    Calls Try.prog 10 #[.slice A0 n0 cap0, .slice A1 n1 cap1] w fun e w' => e = .returned (.bool true) ∧ Keep [] w w' := by
  obtain ⟨i0, hi0, hz0, hz1, hz2⟩ := info_parts parts28
  obtain ⟨j0, hj0, hy0, hy1, hy2⟩ := info_parts parts46
  have hmm := @run_makeMap Try.prog
  have hcap0 := hW.cap
  have hnc0 := hW.nc
  have hcap1 := hE.cap
  have hnc1 := hE.nc
  have HW := Lib.hid hW
  have HE := Lib.hid hE
  clear hW hE
  go_enter Try.func10, Try.ntmps10
  go_upto_if 22 with fail
  go_cut [0] (fun s0 wx => ∃ m, s0 = .slice A0 m cap0 ∧ m ≤ n0 ∧ m ≤ 30 ∧ w = wx)
  case first =>
    by_cases h60 : 30 < n0
    · obtain ⟨b, o, hA0, hb, _⟩ := HW.out.cells (by omega)
      subst hA0
      have h60' : (30 : Int) < (n0 : Int) := by omega
      go_wp2_with fail
      go_meet
      exact ⟨30, rfl, by omega, by omega, rfl⟩
    · have h60' : ¬ (30 : Int) < (n0 : Int) := by omega
      go_wp2_with fail
      go_meet
      exact ⟨n0, rfl, by omega, by omega, rfl⟩
  case rest =>
  obtain ⟨m, rfl, hm, hm30, rfl⟩ := hcut
  have hWm := Lib.hid (HW.out.sub hm)
  go_wp2_with (at_builtin; refine wpList_append_src rfl (.const (.slice none 0 0)) (.tmp 25) 25 rfl w.heap.size 44 i0 (.int .u64 0) 1 8 Try.underlying25 hi0 hz0 hz1 hz2 rfl (by omega) _ 0 [] rfl (World.ownsRow_nil _ _ _ _) A0 m cap0 (rowR m f) rfl (by rw [rowR_len]; omega) hWm.out.nil hWm.out.news (rowR_one _ _) (by simp [maxLen]; omega) (by omega) (Nat.le_refl _) ?_)
  intro v2 w2 hown2 hgrow2
  replace hown2 : w2.ownsRow w.heap.size 44 1 v2 m (rowR m f) := by simpa using hown2
  have hk2 : Keep [] w w2 := nil_keptR hgrow2 rfl
  have HO2 := Lib.hid (hown2.alloc (.cells #[.int .u64 1, .int .u64 2, .int .u64 3] 44))
  clear hown2 hgrow2 hWm
  go_wp2_with (at_builtin; refine wpList_append_src rfl (.tmp 26) (.tmp 27) 25 rfl w.heap.size 44 i0 (.int .u64 0) 1 8 Try.underlying25 hi0 hz0 hz1 hz2 rfl (by omega) _ m (rowR m f) rfl HO2.out (some ⟨w2.heap.size, 0, none⟩) 3 3 (rowR 3 (fun j => (j : Int) + 1)) rfl (by rw [rowR_len]) (by simp) (three_new w2 _ rfl) (rowR_one _ _) (by simp [maxLen]; omega) (by omega) (by have := hk2.size; simp; omega) ?_)
  intro v3 w3 hown3 hgrow3
  have hk3 : Keep [] w w3 := own_keptK HO2.out hgrow3 (hk2.trans (Keep.alloc _ _)) (Nat.le_refl _)
  rw [rowR_cat] at hown3
  obtain ⟨f3, hf3⟩ : ∃ f3 : Nat → Int, f3 = cat m f (fun j => (j : Int) + 1) := ⟨_, rfl⟩
  rw [← hf3] at hown3
  have hf3n : ∀ j, 0 ≤ f3 j := fun j => by
    rw [hf3]; unfold cat; split
    · exact (hf _).1
    · show (0 : Int) ≤ ((j - m : Nat) : Int) + 1
      omega
  obtain ⟨d, hd⟩ : ∃ d, d = m + 3 := ⟨_, rfl⟩
  rw [← hd] at hown3
  have hdb : 3 ≤ d ∧ d ≤ 33 := by omega
  obtain ⟨G1, capG1, rfl, hR1, hG1⟩ := rowR_row hown3 (by omega)
  have hc1 := hR1.cap_le
  have hc2 := hR1.cap_max
  unfold maxLen at hc2
  have hm1 : (Instr.makeSlice 25 (.int .i64 64) (.int .i64 64)).run Try.prog w3 = _ := mk_words 64 (by omega) w3
  have hmr := made_row w3 64 (by omega)
  have k3 : Keep [] w3 (w3.alloc (.cells (madeCells (Value.int .u64 0).cells (64 * 1)) 44)) := Keep.alloc _ _
  have hs3 : w3.heap.size ≤ (w3.alloc (.cells (madeCells (Value.int .u64 0).cells (64 * 1)) 44)).heap.size := by simp
  generalize madeCells (Value.int .u64 0).cells (64 * 1) = Z at *
  have HMR := Lib.hid hmr
  have HW3 := Lib.hid ((Wds.row hR1).keep k3)
  have HF3 := Lib.hid hf3n
  clear hown3 hgrow3 HO2 hf3 hd hmr hR1 hf3n hm30 hm HW
  go_wp2_with (at_builtin; refine wpList_append_src rfl (.tmp 29) (.tmp 30) 25 rfl w3.heap.size 44 i0 (.int .u64 0) 1 8 Try.underlying25 hi0 hz0 hz1 hz2 rfl (by omega) _ 64 (rowR 64 fun _ => 0) rfl HMR.out (some ⟨G1, 0, none⟩) d capG1 (rowR d f3) rfl (by rw [rowR_len]; omega) (by simp) HW3.out.news (rowR_one _ _) (by simp [maxLen]; omega) (by omega) hs3 ?_)
  intro v4 w4 hown4 hgrow4
  have hk4' : Keep [] w3 w4 := k3.into (Keep.grown (own := [w3.heap.size]) hgrow4 (fun k _ e => by simp [Value.ownBlock] at e; simp [e])) (by simp)
  have hk4 := hk3.trans hk4'
  rw [rowR_cat] at hown4
  obtain ⟨F, hF⟩ : ∃ F : Nat → Int, F = cat 64 (fun _ => 0) f3 := ⟨_, rfl⟩
  rw [← hF] at hown4
  have hF0 : F 0 = 0 := by rw [hF]; simp [cat]
  have hFn : ∀ j, 0 ≤ F j := fun j => by
    rw [hF]; unfold cat; split
    · exact Int.le_refl 0
    · exact HF3.out _
  obtain ⟨N, hN⟩ : ∃ N, N = 64 + d := ⟨_, rfl⟩
  rw [← hN] at hown4
  obtain ⟨G0, capG, rfl, hR, hG⟩ := rowR_row hown4 (by omega)
  have hNb : 67 ≤ N ∧ N ≤ 97 := by omega
  have HNM := Lib.hid hN
  have HR := Lib.hid hR
  have HFN := Lib.hid hFn
  have HF0 := Lib.hid hF0
  have hGc := hR.cap_le
  have hGm := hR.cap_max
  unfold maxLen at hGm
  clear hown4 hgrow4 HMR HW3 hF hN hFn hF0 hm1 k3 hs3 hR hk4' HF3 hk2 hk3
  go_wp2_with (at_builtin; refine wpList_append_src rfl (.const (.slice none 0 0)) (.tmp 32) 25 rfl w4.heap.size 44 i0 (.int .u64 0) 1 8 Try.underlying25 hi0 hz0 hz1 hz2 rfl (by omega) _ 0 [] rfl (World.ownsRow_nil _ _ _ _) (some ⟨G0, 0, none⟩) N capG (rowR N F) rfl (by rw [rowR_len]; omega) (by simp) (fun ad had => by injection had with had; subst had; exact rowR_cells HR.out) (rowR_one _ _) (by simp [maxLen]; omega) (by omega) (Nat.le_refl _) ?_)
  intro v5 w5 hown5 hgrow5
  replace hown5 : w5.ownsRow w4.heap.size 44 1 v5 N (rowR N F) := by simpa using hown5
  have hk5 : Keep [] w4 w5 := nil_keptR hgrow5 rfl
  obtain ⟨Wn, capW, rfl, hRW, hWn⟩ := rowR_row hown5 (by omega)
  have HRW := Lib.hid hRW
  have HR5 := Lib.hid (HR.out.keep hk5 (by simp))
  have hGW : G0 < Wn := by have := HR.out.lt; omega
  have hWl := hRW.lt
  have hWc := hRW.cap_le
  have hWm := hRW.cap_max
  unfold maxLen at hWm
  have hwW : w.heap.size ≤ Wn := by have := hk4.size; omega
  have hk6 := hk4.trans hk5
  clear hown5 hgrow5 hRW HR hi0 hz0 hz1 hz2 hk4 hk5
  have hMap := IMap.made w5
  have hMl : w5.heap.size < (w5.alloc (.map #[] 0)).heap.size := by simp
  have k56 : Keep [] w5 (w5.alloc (.map #[] 0)) := Keep.alloc _ _
  have HLM := Lib.hid hMap
  have HGE := Lib.hid (fun j => goodE_range (d := d) (by omega) E j)
  have HGB := Lib.hid (goodE_EB (d := d) (n := n1) (by omega) (by omega) hEB)
  clear hMap
  go_wp2_with fail
  generalize w5.alloc (.map #[] 0) = w6 at *
  have HMl := Lib.hid hMl
  generalize hM : w5.heap.size = M at *
  have hGM : G0 < M := by omega
  have HM5 := Lib.hid hM
  clear hMl hM
  go_loopw [37, 6] (fun x y wr => LsRel w5 M N Wn capW n1 (goodE d E) F x y wr) (fun x _ _ => n1 - (intOf x).toNat)
  case atStart => exact ⟨0, _, _, rfl, by omega, World.ownsRow_nil _ _ _ _, HRW.out.keep k56 (by simp), HLM.out, k56.of_nil, HMl.out⟩
  case round =>
    obtain ⟨i, h, sz, rfl, hi1, hrow, hrw, hmap, hK7, hMw⟩ := hrel
    have HRow := Lib.hid hrow
    have HRw := Lib.hid hrw
    have HMP := Lib.hid hmap
    have hk7 : Keep [] w wr := hk6.into hK7 (by simpa using hwW)
    clear hrow hmap hrw
    by_cases hlt : i < n1
    · obtain ⟨b', o', hA', _, hb', hcc⟩ := (HE.out.lift (own := []) hk7 (by simp)).cells (by omega)
      subst hA'
      obtain ⟨c0, c1⟩ := hcc i hlt
      have hlt' : (i : Int) < (n1 : Int) := by omega
      clear hcc
      by_cases h24 : i < 20
      · have h24' : (i : Int) < 20 := by omega
        have hmi : min i 20 = i := by omega
        rw [hmi] at HRow HMP HRw
        obtain ⟨U, hU⟩ : ∃ U, IntKind.u64.wrap (E i).a = U := ⟨_, rfl⟩
        have hUr := u64_range (E i).a
        have hgi : goodE d E i = ⟨64 + U % (d : Int), (E i).v⟩ := by unfold goodE; rw [hU]
        rw [hU] at hUr
        have hr1 := Int.emod_nonneg U (b := (d : Int)) (by omega)
        have hr2 := Int.emod_lt_of_pos U (b := (d : Int)) (by omega)
        have htm : U.tmod (d : Int) = U % (d : Int) := Int.tmod_eq_emod_of_nonneg hUr.1
        generalize U % (d : Int) = r at *
        obtain ⟨t, ht⟩ : ∃ t : Nat, 64 + r = t := ⟨(64 + r).toNat, by omega⟩
        have htN : t < N ∧ 64 ≤ t := by have := HNM.out; omega
        rw [ht] at hgi
        obtain ⟨vv, hvv⟩ : ∃ vv, vv = (E i).v := ⟨_, rfl⟩
        rw [← hvv] at hgi c1
        have HGI := Lib.hid hgi
        have HTN := Lib.hid htN
        clear hgi hmi hvv htN
        go_wp2_with (at_builtin; refine wpList_append_src rfl (.tmp 54) (.tmp 56) 26 rfl (M + 1) 46 j0 (.agg #[.int .i64 0, .int .u64 0]) 2 16 Try.underlying26 hj0 hy0 hy1 hy2 rfl (by omega) _ i (entsR (goodE d E) i) rfl (ownsRow_keep0 HRow.out ((Keep.alloc _ _).trans (Keep.alloc _ _))) (some ⟨_, 0, none⟩) 1 1 [.int .i64 (t : Int), .int .u64 vv] rfl rfl (by simp) (ents_new _ ⟨(t : Int), vv⟩ _ (by simp)) (by intro u hu; simp at hu; rcases hu with rfl | rfl <;> rfl) (by simp [maxLen]; omega) (by omega) (by simp; omega) ?_)
        intro v8 w8 hown8 hgrow8
        have kk : Keep [] wr ((wr.alloc (.cells #[.int .i64 (t : Int), .int .u64 vv] 46)).alloc (.cells #[.int .i64 (t : Int), .int .u64 vv] 46)) := (Keep.alloc _ _).trans (Keep.alloc _ _)
        have hK8 : Keep [Wn] w5 w8 := (hK7.trans kk.of_nil).into (Keep.grown (own := u6.ownBlock.toList) hgrow8 (fun k _ e => by simp [e])) (fun q hq => by simp at hq; have := HRow.out.lt q hq; have := HM5.out; omega)
        have hM8 := own_keptM HRow.out kk hgrow8 HMP.out (by omega)
        have hB8 := own_keptB HRow.out kk hgrow8 ((Blk.new wr 46 #[.int .i64 (t : Int), .int .u64 vv]).keep (own := []) (Keep.alloc _ (.cells #[.int .i64 (t : Int), .int .u64 vv] 46)) (by simp)) (Nat.le_refl _)
        have cc0 := (hB8.cell 0).trans (show _ = some (Value.int .i64 (t : Int)) from rfl)
        have cc1 := (hB8.cell 1).trans (show _ = some (Value.int .u64 vv) from rfl)
        have hRw8 : Row w8 44 Wn N capW (Go.Proofs.Ytejhdmpobaffcaa.u64 (upd F (goodE d E) i)) := (HRw.out.keep kk (by simp)).keep (Keep.grown (own := u6.ownBlock.toList) hgrow8 (fun k _ e => by simp [e])) (fun hm => by simp at hm; have := HRow.out.lt Wn hm; have := HM5.out; omega)
        have hx0 := hRw8.cell HTN.out.1
        have hz8 := hRw8.frozen t
        have hrow8 : w8.ownsRow (M + 1) 46 2 v8 (i + 1) (entsR (goodE d E) (i + 1)) := by
          rw [entsR, HGI.out]
          exact hown8
        have hne : wr.heap.size ≠ Wn := by have := HRw.out.lt; omega
        have hMW : M ≠ Wn := by have := HM5.out; omega
        have cd0 : (w8.setCell ⟨Wn, t, none⟩ (.int .u64 vv)).cell? ⟨wr.heap.size, 0, none⟩ = some (.int .i64 (t : Int)) := ((hB8.far (p := ⟨Wn, t, none⟩) hne (.int .u64 vv)).cell 0).trans rfl
        have hRw9 : Row (w8.setCell ⟨Wn, t, none⟩ (.int .u64 vv)) 44 Wn N capW (Go.Proofs.Ytejhdmpobaffcaa.u64 (upd F (goodE d E) (i + 1))) := (hRw8.set_ t _).congr (fun q _ => by
          unfold Go.Proofs.Ytejhdmpobaffcaa.u64
          simp only [upd]
          rw [HGI.out]
          dsimp only
          by_cases e : q = t
          · rw [if_pos e, if_pos (by omega)]
          · rw [if_neg e, if_neg (by omega)])
        have hks : Keep [Wn] w8 (w8.setCell ⟨Wn, t, none⟩ (.int .u64 vv)) := Keep.setCell _ _ (by simp) _
        have HM9 := Lib.hid (hM8.keep hks (by simpa using hMW))
        have HR9 := Lib.hid (ownsRow_keep hrow8 hks (by simp; have := HM5.out; omega))
        have HRW9 := Lib.hid hRw9
        have hK9 := hK8.trans hks
        have hcr := cntE_range (goodE d E) i (t : Int)
        unfold Go.Proofs.Ytejhdmpobaffcaa.u64 at hx0
        have htb : t < N := HTN.out.1
        clear hown8 hgrow8 hrow8 hRw8 hM8 hB8 kk hRw9 c0 c1 HRow HRw HMP hK8 hks
        go_wp2_with (first | (at_lookup; refine wpList_imap_look rfl _ _ rfl M i _ _ _ rfl HM9.out (t : Int) rfl (WalkArith.wf_i64 (by omega)) ?_) | (at_mapUpdate; refine wpList_imap_put rfl _ _ _ rfl M i _ _ _ rfl HM9.out (by omega) (t : Int) (cntE (goodE d E) i (t : Int) + 1) rfl rfl (WalkArith.wf_i64 (by omega)) (WalkArith.wf_i64 (by omega)) ?_))
        intro w10 hm10 hk10
        have hg0 : (goodE d E i).a = (t : Int) := by rw [HGI.out]
        have hm11 : IMap w10 M (i + 1) (putH h (t : Int)) (cntE (goodE d E) (i + 1)) (putZ h (t : Int) sz) := hm10.congr (fun _ => rfl) (fun x => by
          unfold putC
          simp only [cntE]
          rw [hg0]
          by_cases e : x = t
          · rw [if_pos e, if_pos e, e]
          · rw [if_neg e, if_neg e]; omega) rfl
        have hr10 := ownsRow_keep HR9.out hk10 (by simp)
        have hRw10 := HRW9.out.keep hk10 (by simpa using hMW.symm)
        have hK10 : Keep [Wn] w5 w10 := hK9.into hk10 (by simp; have := HM5.out; omega)
        have H1 := Lib.hid hm11
        have H2 := Lib.hid hr10
        have H3 := Lib.hid hRw10
        have HMI := Lib.hid (show min (i + 1) 20 = i + 1 by omega)
        have hsz9 : M < w10.heap.size := hm11.lt
        clear hm10 hm11 hr10 hRw10 HM9 HR9 HRW9 hg0 cc0 cc1 cd0 hx0 hz8 HGI
        go_wp2_with fail
        exact ⟨⟨i + 1, _, _, by go_num, by omega, by rw [HMI.out]; exact H2.out, by rw [HMI.out]; exact H3.out, by rw [HMI.out]; exact H1.out, hK10, hsz9⟩, by simp [intOf]; omega⟩
      · have h24' : ¬ (i : Int) < 20 := by omega
        have ki : Keep [] wr (wr.alloc (.cells #[.int .i64 (E i).a, .int .u64 (E i).v] 46)) := Keep.alloc _ _
        have HMI := Lib.hid (show min (i + 1) 20 = min i 20 by omega)
        have hsz : M < (wr.alloc (.cells #[.int .i64 (E i).a, .int .u64 (E i).v] 46)).heap.size := by simp; omega
        have HSZ := Lib.hid hsz
        clear hsz
        go_wp2_with fail
        exact ⟨⟨i + 1, h, sz, by go_num, by omega, by rw [HMI.out]; exact ownsRow_keep0 HRow.out ki, by rw [HMI.out]; exact HRw.out.keep ki (by simp), by rw [HMI.out]; exact HMP.out.keep ki (by simp), hK7.trans ki.of_nil, HSZ.out⟩, by simp [intOf]; omega⟩
    · have hin : ¬ (i : Int) < (n1 : Int) := by omega
      obtain ⟨c, hc⟩ : ∃ c, c = min i 20 := ⟨_, rfl⟩
      rw [← hc] at HRow HMP HRw
      have hcb : c ≤ 20 ∧ c ≤ n1 := by omega
      obtain ⟨Ag, capE, hv, hEn, hEg⟩ := Ents.of_owns HRow.out
      subst hv
      have hR7 := HR5.out.keep hK7 (by simp; omega)
      have HR7 := Lib.hid hR7
      have HEN := Lib.hid hEn
      have hce := hEn.cap
      have hne := hEn.nc
      clear hc hEn hEg hR7 HRow hlt
      generalize wr = wo at *
      go_wp2_with fail
      go_loopw [72, 7] (fun x y wr => BkRel wo wo.heap.size c (goodE d E) x y wr) (fun x _ _ => c - (intOf x).toNat)
      case atStart => exact ⟨0, rfl, by omega, World.ownsRow_nil _ _ _ _, Keep.refl _ _⟩
      case round =>
        obtain ⟨j, rfl, hjc, hrow, hKb⟩ := hrel
        have HRow := Lib.hid hrow
        clear hrow
        by_cases hj : j < c
        · obtain ⟨b', o', hA', _, hb', hcc⟩ := (HEN.out.lift (own := []) hKb (by simp)).cells (by omega)
          subst hA'
          obtain ⟨c0, c1⟩ := hcc (c - 1 - j) (by omega)
          have hj' : (j : Int) < (c : Int) := by omega
          have hix : (c : Int) - 1 - (j : Int) = ((c - 1 - j : Nat) : Int) := by omega
          obtain ⟨q, hq⟩ : ∃ q, q = c - 1 - j := ⟨_, rfl⟩
          rw [← hq] at c0 c1 hix
          have hqb : (q : Int) < (c : Int) := by omega
          have hrv : revE (goodE d E) c j = goodE d E q := by unfold revE; rw [hq]
          have HRV := Lib.hid hrv
          obtain ⟨ee, hee⟩ : ∃ ee, ee = goodE d E q := ⟨_, rfl⟩
          rw [← hee] at c0 c1 HRV
          have hs7 := hKb.size
          clear hcc hq hrv hee
          go_wp2_with (at_builtin; refine wpList_append_src rfl (.tmp 75) (.tmp 84) 26 rfl wo.heap.size 46 j0 (.agg #[.int .i64 0, .int .u64 0]) 2 16 Try.underlying26 hj0 hy0 hy1 hy2 rfl (by omega) _ j (entsR (revE (goodE d E) c) j) rfl (ownsRow_keep0 HRow.out (Keep.alloc _ _)) (some ⟨_, 0, none⟩) 1 1 [.int .i64 ee.a, .int .u64 ee.v] rfl rfl (by simp) (ents_new _ ee _ rfl) (by intro u hu; simp at hu; rcases hu with rfl | rfl <;> rfl) (by simp [maxLen]; omega) (by omega) (by simp; omega) ?_)
          intro v8 w8 hown8 hgrow8
          have kk : Keep [] wr (wr.alloc (.cells #[.int .i64 ee.a, .int .u64 ee.v] 46)) := Keep.alloc _ _
          have hK8 : Keep [] wo w8 := own_keptK (ownsRow_keep0 HRow.out kk) hgrow8 (hKb.trans kk) (Nat.le_refl _)
          have hrow8 : w8.ownsRow wo.heap.size 46 2 v8 (j + 1) (entsR (revE (goodE d E) c) (j + 1)) := by
            rw [entsR, HRV.out]
            exact hown8
          have HR8 := Lib.hid hrow8
          clear hown8 hgrow8 hrow8 kk c0 c1 HRow HRV
          go_wp2_with fail
          exact ⟨⟨j + 1, by go_num, by omega, HR8.out, hK8⟩, by simp [intOf]; omega⟩
        · have hjn : ¬ (j : Int) < (c : Int) := by omega
          obtain rfl : j = c := by omega
          obtain ⟨Ab, capB, hv, hEb, hEbg⟩ := Ents.of_owns HRow.out
          subst hv
          have HEB := Lib.hid hEb
          have hcb1 := hEb.cap
          have hcb2 := hEb.nc
          have hR9 := HR7.out.keep hKb (by simp)
          have HR9 := Lib.hid hR9
          have hld := laid_any wr (some ⟨G0, 0, none⟩) N capG F (Wds.row hR9) (by omega)
          have hld2 := fun W (hk : Keep [] wr W) => laid_any W (some ⟨G0, 0, none⟩) N capG F (Wds.row (hR9.keep hk (by simp))) (by omega)
          have HLD2 := Lib.hid hld2
          have hkr := hk7.trans hKb
          have hszr := hKb.size
          obtain ⟨b1, b2, b3, b4⟩ := laidS_facts N F
          have hsn : 0 ≤ (laidS N F).steps ∧ (laidS N F).steps ≤ 500 := by rw [b2]; unfold nl; omega
          have hnone : ∀ G', None_ N j G' F (laidS N F) := fun G' => laid_none (by omega) HF0.out (fun j _ => HFN.out j)
          have hEO1 : EOk N j (goodE d E) := ⟨by omega, by omega, by omega, fun q _ => by have := HGE.out q; have := HNM.out; omega, fun q hq => (HGB.out q (by omega)).2.2.1⟩
          have hEO2 : EOk N j (revE (goodE d E) j) := ⟨by omega, by omega, by omega, fun q _ => by have := HGE.out (j - 1 - q); have := HNM.out; unfold revE; omega, fun q hq => (HGB.out (j - 1 - q) (by omega)).2.2.1⟩
          have hEB1 : EB (goodE d E) j := fun q hq => HGB.out q (by omega)
          have hEB2 : EB (revE (goodE d E) j) j := fun q hq => HGB.out (j - 1 - q) (by omega)
          obtain ⟨_, p2, _, p4, _, _, p7⟩ := write_fine hEO1 b3 b1.1 (hnone _)
          obtain ⟨_, q2, _, q4, _, _, q7⟩ := write_fine hEO2 b3 b1.1 (hnone _)
          have ha1 := (p7 b1).1
          have ha2 := (q7 b1).1
          have HW1 := Lib.hid (p2 ha1)
          have HW2 := Lib.hid (q2 ha2)
          have hwr1 := fun W L hD A c hEn => write_any W L (laidS N F) hD 0 64 A j c (goodE d E) hEn hEB1 (by omega) (by omega)
          have hwr2 := fun W L hD A c hEn => write_any W L (laidS N F) hD 0 64 A j c (revE (goodE d E) j) hEn hEB2 (by omega) (by omega)
          rw [ha1] at hwr1
          rw [ha2] at hwr2
          have HWR1 := Lib.hid hwr1
          have HWR2 := Lib.hid hwr2
          have HP4 := Lib.hid p4
          have HQ4 := Lib.hid q4
          clear hEb hEbg hR9 hld2 b1 b2 b3 b4 hnone hEO1 hEO2 hEB1 hEB2 p2 p7 q2 q7 ha1 ha2 hwr1 hwr2 p4 q4 HRow hj
          generalize (writeR (laidS N F) 0 64 (goodE d E) j).1 = Q1 at *
          generalize (writeR (laidS N F) 0 64 (revE (goodE d E) j) j).1 = Q2 at *
          go_wp2_with fail
          (with_reducible refine hld.mono ?_)
          rintro e w10 ⟨L, T, rfl, hD, hT, hLf, _, _, hK10⟩
          have hld2 := HLD2.out w10 hK10
          have hLl := hD.lt
          clear hld hT HLD2
          go_wp2_with fail
          (with_reducible refine hld2.mono ?_)
          rintro e w11 ⟨L', T', rfl, hD', hT', hLf', _, _, hK11⟩
          have hdis : ∀ k ∈ L.own, k ∉ L'.own := fun k h1 h2 => by have := hLl k h1; have := hLf' k h2; omega
          have hdis' : ∀ k ∈ L'.own, k ∉ L.own := fun k h1 h2 => hdis k h2 h1
          have hs10 := hK10.size
          have hbig : ∀ k ∈ L.own ++ L'.own, wr.heap.size ≤ k := fun k hk => by
            rcases List.mem_append.1 hk with h | h
            · exact hLf k h
            · have := hLf' k h; omega
          have hbig2 : ∀ k ∈ L.own ++ L'.own, wo.heap.size ≤ k := fun k hk => by have := hbig k hk; omega
          have hE1 := (HEN.out.lift (own := L.own) ((hKb.trans hK10).trans hK11) (fun k hk => hbig2 k (List.mem_append.2 (.inl hk))))
          have hE2 := (HEB.out.lift (own := L.own ++ L'.own) (hK10.trans hK11) hbig)
          have hwr1 := HWR1.out w11 L (hD.keep hK11 (by simp)) Ag capE hE1
          have HE2 := Lib.hid hE2
          have HD' := Lib.hid hD'
          have hk11 := (hkr.trans hK10).trans hK11
          have hko := (hKb.trans hK10).trans hK11
          have HBIG := Lib.hid hbig2
          clear hld2 hT' hD hE1 hE2 hD' HWR1 HEN HEB hbig
          go_wp2_with fail
          (with_reducible refine hwr1.mono ?_)
          rintro e w12 ⟨rfl, hD12, hK12⟩
          have hE3 := ((HE2.out.keep (hK12.mono (fun _ _ h => List.mem_append.2 (.inl h)))).weaken (own' := L'.own) (fun _ h => List.mem_append.2 (.inr h)))
          have hwr2 := HWR2.out w12 L' (HD'.out.keep hK12 hdis) Ab capB hE3
          clear hwr1 HE2 HD' hE3 HWR2
          go_wp2_with fail
          (with_reducible refine hwr2.mono ?_)
          rintro e w13 ⟨rfl, hD13', hK13⟩
          have hD13 := hD12.keep hK13 hdis'
          have hK1213 : Keep (L.own ++ L'.own) w11 w13 := (hK12.mono (fun _ _ h => List.mem_append.2 (.inl h))).trans (hK13.mono (fun _ _ h => List.mem_append.2 (.inr h)))
          have hk13 : Keep [] w w13 := hk11.into hK1213 (fun k hk => by have := HBIG.out k hk; have := hk7.size; omega)
          have hko13 : Keep [] wo w13 := hko.into hK1213 HBIG.out
          have hwo1 := words_any w13 L Q1 hD13
          rw [HP4.out] at hwo1
          clear hwr2 hD12
          go_wp2_with fail
          (with_reducible refine hwo1.mono ?_)
          rintro e w14 ⟨g1, cg1, rfl, hR1, _, hK14⟩
          have hwo2 := words_any w14 L' Q2 (hD13'.keep hK14 (by simp))
          rw [HQ4.out] at hwo2
          clear hwo1
          go_wp2_with fail
          (with_reducible refine hwo2.mono ?_)
          rintro e w15 ⟨g2, cg2, rfl, hR2, _, hK15⟩
          have hR1' := hR1.keep hK15 (by simp)
          have hko15 := (hko13.trans hK14).trans hK15
          have hRW15 := HRw.out.keep hko15 (by simp)
          have hMP15 := HMP.out.keep hko15 (by simp)
          have hk15 := (hk13.trans hK14).trans hK15
          have v1 := hR1.cap_le
          have v2 := hR1.cap_max
          have v3 := hR2.cap_le
          have v4 := hR2.cap_max
          unfold maxLen at v2 v4
          have he1 : eqB d (fun q => Q1.sure (64 + q)) (fun q => upd F (goodE d E) j (64 + q)) = true := eqB_true.2 (fun q hq => (HW1.out (64 + q)).2.1.2.2.2 (by omega) (by have := HNM.out; omega))
          have hsm1 := fun n => same_any (w15.drewN n) g1 64 (cg1 - 64) Wn 64 (capW - 64) d (fun q => Q1.sure (64 + q)) (fun q => upd F (goodE d E) j (64 + q)) (by omega) (fun q hq => ((hR1'.dr (Dr.drewN _ n)).cell (show 64 + q < N by have := HNM.out; omega))) (fun q hq => ((hRW15.dr (Dr.drewN _ n)).cell (show 64 + q < N by have := HNM.out; omega)))
          rw [he1] at hsm1
          have HS1 := Lib.hid hsm1
          have hN64 : N - 64 = d := by have := HNM.out; omega
          have nc1 : ¬ cg1 = 64 := by omega
          have nc2 : ¬ capW = 64 := by omega
          have hN1 : (64 : Int) ≤ (N : Int) := by omega
          have hN2 : (64 : Int) ≤ (cg1 : Int) := by omega
          have hN3 : (64 : Int) ≤ (capW : Int) := by omega
          have HRa := Lib.hid hR1'
          have HRb := Lib.hid hR2
          have HMQ := Lib.hid hMP15
          clear hsm1 he1 hR1 hR1' hR2 hRW15 hMP15 hwo2 hD13 hD13' HRw HMP
          go_wp2_with fail
          go_quiet ((go_at_call 23; refine quiet (HS1.out _)))
          generalize wr = wp at *
          have hkq := hk15.trans (Keep.dr (Dr.drewN w15 nq))
          have HRa2 := Lib.hid (HRa.out.dr (Dr.drewN w15 nq))
          have HRb2 := Lib.hid (HRb.out.dr (Dr.drewN w15 nq))
          have HMQ2 := Lib.hid (HMQ.out.keep (own := []) (Keep.dr (Dr.drewN w15 nq)) (by simp))
          clear HS1 HRa HRb HMQ hN64
          generalize w15.drewN nq = w16 at *
          go_wp2_with fail
          go_loopw [19] (fun x wr => CmRel w16 N x wr) (fun x _ => N - (intOf x).toNat)
          case atStart => exact ⟨64, rfl, by omega, by omega, Keep.refl _ _⟩
          case round =>
            obtain ⟨q, rfl, hq1, hq2, hKq⟩ := hrel
            by_cases hq : q < N
            · have hq' : (q : Int) < (N : Int) := by omega
              have ca := (HRa2.out.keep hKq (by simp)).cell hq
              have cb := (HRb2.out.keep hKq (by simp)).cell hq
              have hlk := fun n => ((HMQ2.out.keep hKq (by simp)).keep (own := []) (Keep.dr (Dr.drewN wr n)) (by simp)).run (q : Int) (WalkArith.wf_i64 (by omega))
              have hcr := cntE_range (goodE d E) j (q : Int)
              unfold Go.Proofs.Ytejhdmpobaffcaa.u64 at ca cb
              obtain ⟨cn, hcn⟩ : ∃ cn, cntE (goodE d E) j (q : Int) = cn := ⟨_, rfl⟩
              rw [hcn] at hlk hcr
              by_cases h2 : cn < 2
              · have hsame : Q1.sure q = Q2.sure q := by
                  have e1 := (HW1.out q).2.1.2.2.2 (by omega) (by omega)
                  have e2 := (HW2.out q).2.1.2.2.2 (by omega) (by omega)
                  rw [show Q1.sure q = Bb j (goodE d E) F q from e1, show Q2.sure q = Bb j (revE (goodE d E) j) F q from e2]
                  exact last_same (by rw [hcn]; exact h2)
                rw [← hsame] at cb
                clear hsame hcn
                go_wp2_with fail
                go_quiet (fail)
                go_wp2_with fail
                exact ⟨⟨q + 1, by go_num, by omega, by omega, hKq.trans (Keep.dr (Dr.drewN wr _))⟩, by simp [intOf]; omega⟩
              · have h2' : decide (cn < 2) = false := by simpa using h2
                clear hcn h2
                go_wp2_with fail
                go_quiet (fail)
                go_wp2_with fail
                exact ⟨⟨q + 1, by go_num, by omega, by omega, hKq.trans (Keep.dr (Dr.drewN wr _))⟩, by simp [intOf]; omega⟩
            · have hq' : ¬ (q : Int) < (N : Int) := by omega
              have haw := awake_any wr
              go_wp2_with fail
              (with_reducible refine haw.mono ?_)
              rintro e w20 ⟨rfl, hK20⟩
              go_wp2
              go_ret
              exact ⟨rfl, (hkq.trans hKq).trans hK20⟩
end Go.Proofs.Ytejhdmpobaffcaa
