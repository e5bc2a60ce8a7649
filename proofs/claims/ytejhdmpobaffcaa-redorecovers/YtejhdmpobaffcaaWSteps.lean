/-
  RedoSteps, walked. No conditions.
-/
import Derived.Test.YtejhdmpobaffcaaWMake
import Derived.Test.YtejhdmpobaffcaaIMap
namespace Go.Proofs.Ytejhdmpobaffcaa
open Go.RowKit Go.Flo
set_option maxRecDepth 100000

/-- Entries whose At is made one of d words behind the log's 64. -/
def goodE (d : Nat) (E : Nat → Ent) (j : Nat) : Ent := ⟨64 + IntKind.u64.wrap (E j).a % (d : Int), (E j).v⟩
theorem u64_range (x : Int) : 0 ≤ IntKind.u64.wrap x ∧ IntKind.u64.wrap x < 18446744073709551616 := by
  simp [IntKind.wrap, IntKind.signed, IntKind.bits]
  omega
theorem goodE_range {d : Nat} (hd : 0 < d) (E : Nat → Ent) (j : Nat) : 64 ≤ (goodE d E j).a ∧ (goodE d E j).a < 64 + d := by
  have h1 := Int.emod_nonneg (IntKind.u64.wrap (E j).a) (b := (d : Int)) (by omega)
  have h2 := Int.emod_lt_of_pos (IntKind.u64.wrap (E j).a) (b := (d : Int)) (by omega)
  unfold goodE
  dsimp only
  omega
theorem goodE_EB {d n : Nat} (hd : 0 < d) (hd1 : d ≤ 1000) {E : Nat → Ent} (hEB : EB E n) : EB (goodE d E) n := by
  intro j hj
  have h1 := goodE_range hd E j
  have h2 := hEB j hj
  exact ⟨by omega, by omega, h2.2.2.1, h2.2.2.2⟩

/-- A row that is written by a device that has power, and no fuse. -/
theorem write_calm {S : St} {E : Nat → Ent} {k : Nat} {t : Nat} (hc : Calm S) (h0 : S.now 0 = 0) (ht : t ≤ S.n) (hn : S.n ≤ 65536) (hk : 8 + 2 * k ≤ t) (hk2 : k ≤ 1024) (hE : ∀ j, j < k → (t : Int) ≤ (E j).a ∧ (E j).a < S.n) :
    writeR S 0 t E k = if k = 0 then (S, 0) else play S (wrOps 0 E k) := by
  have hm : mayB S.n 0 (t : Int) = true := by simp [mayB]; omega
  have hh : holdsB 0 (t : Int) (k : Int) = true := by simp [holdsB]; omega
  have hl : leavesB S.n 0 (t : Int) E k = true := leavesB_true.2 (fun j hj => by
    have := hE j hj
    exact (atB_true hn (by omega) (by omega)).2 (by omega))
  unfold writeR
  rw [if_neg (by rw [hm]; simp), if_neg (by rw [hh]; simp), if_neg (by rw [hl]; simp), if_neg (by rw [hc.1]; simp), if_neg (by
    have : (0 : Int).toNat = 0 := rfl
    rw [this, h0]; simp)]
theorem log_calm {S : St} {E : Nat → Ent} {k t : Nat} (ht : t ≤ S.n) (hk : 8 + 2 * k ≤ t) (hE : ∀ j, j < k → (t : Int) ≤ (E j).a ∧ (E j).a < S.n) : LogOk S.n 0 t E k :=
  ⟨by omega, by omega, ht, fun j hj => by have := hE j hj; omega⟩
theorem write_calm_steps {S : St} {E : Nat → Ent} {k : Nat} {t : Nat} (hc : Calm S) (h0 : S.now 0 = 0) (ht : t ≤ S.n) (hn : S.n ≤ 65536) (hk : 8 + 2 * k ≤ t) (hk2 : k ≤ 1024) (hE : ∀ j, j < k → (t : Int) ≤ (E j).a ∧ (E j).a < S.n) :
    (writeR S 0 t E k).2 = 0 ∧ (writeR S 0 t E k).1.steps = S.steps + (if k = 0 then 0 else ((2 * k + (2 * k + 7) / 8 + k + (doFl E k).length + 8 : Nat) : Int)) := by
  rw [write_calm hc h0 ht hn hk hk2 hE]
  by_cases hk0 : k = 0
  · simp [hk0]
  · rw [if_neg hk0, if_neg hk0]
    obtain ⟨a, _, b⟩ := play_calm (S := S) (wrOps_ok (log_calm ht hk hE)) hc
    have hl := wrOps_len 0 E k
    have h00 : ((0 : Nat) : Int) = 0 := rfl
    rw [h00] at a b
    rw [hl] at b
    exact ⟨a, b⟩

def lnH (G : Nat → Ent) (k : Nat) (x : Int) : Bool := decide (0 ≤ x) && seenB G k x.toNat
theorem lnH_next {G : Nat → Ent} {k : Nat} (h0 : 0 ≤ (G k).a) (x : Int) : putH (lnH G k) ((G k).a / 8) x = lnH G (k + 1) x := by
  unfold putH lnH
  rw [seenB_succ]
  by_cases hx : 0 ≤ x
  · by_cases he : x = (G k).a / 8
    · have : (G k).a.toNat / 8 = x.toNat := by omega
      simp [he, this]
      omega
    · have hb : ((G k).a.toNat / 8 == x.toNat) = false := by simp; omega
      rw [hb]
      simp [he]
  · have : ¬ x = (G k).a / 8 := by omega
    simp [hx, this]
theorem lnH_size {G : Nat → Ent} {k : Nat} (h0 : 0 ≤ (G k).a) : (if lnH G k ((G k).a / 8) then (doFl G k).length else (doFl G k).length + 1) = (doFl G (k + 1)).length := by
  have e : lnH G k ((G k).a / 8) = seenB G k ((G k).a.toNat / 8) := by
    unfold lnH
    have : ((G k).a / 8).toNat = (G k).a.toNat / 8 := by omega
    rw [this]
    have h1 : 0 ≤ (G k).a / 8 := by omega
    simp [h1]
  rw [e]
  simp only [doFl, List.length_append]
  split <;> simp_all

/-- The loop of RedoSteps: i entries seen, the first 24 taken. -/
def SpRel (w : World) (M n1 : Nat) (G : Nat → Ent) (x y : Value) (wr : World) : Prop :=
  ∃ (i : Nat) (c : Int → Int), x = .int .i64 i ∧ i ≤ n1 ∧ wr.ownsRow (M + 1) 46 2 y (min i 24) (entsR G (min i 24)) ∧ IMap wr M (min i 24) (lnH G (min i 24)) c (doFl G (min i 24)).length ∧ Keep [] w wr ∧ M < wr.heap.size
theorem own_keptK {w w' w0 : World} {B n size : Nat} {v : Value} {e : TypeId} {xs : List Value} (h : w.ownsRow B e size v n xs) (hg : w.grownBy w' v.ownBlock) (hk : Keep [] w0 w) (hB : w0.heap.size ≤ B) : Keep [] w0 w' :=
  hk.into (Keep.grown (own := v.ownBlock.toList) hg (fun k _ e => by simp [e])) (fun i hi => by simp at hi; have := h.lt i hi; omega)
theorem own_keptM {w W w' : World} {B n M mm : Nat} {size : Nat} {v : Value} {e : TypeId} {xs : List Value} {h : Int → Bool} {c : Int → Int} {sz : Nat} (hr : w.ownsRow B e size v n xs) (hk : Keep [] w W) (hg : W.grownBy w' v.ownBlock) (hm : IMap w M mm h c sz) (hMB : M < B) : IMap w' M mm h c sz := by
  have h1 : Keep v.ownBlock.toList W w' := Keep.grown hg (fun k _ e => by simp [e])
  refine (hm.keep hk (by simp)).keep h1 ?_
  intro hmem
  simp at hmem
  have := hr.lt M hmem
  omega
theorem own_keptB {w W w' : World} {B n G : Nat} {size : Nat} {v : Value} {e t : TypeId} {xs : List Value} {cs : Array Value} (hr : w.ownsRow B e size v n xs) (_hk : Keep [] w W) (hg : W.grownBy w' v.ownBlock) (hb : Blk W G t cs) (hG : w.heap.size ≤ G) : Blk w' G t cs := by
  have h1 : Keep v.ownBlock.toList W w' := Keep.grown hg (fun k _ e => by simp [e])
  refine hb.keep h1 ?_
  intro hmem
  simp at hmem
  have := hr.lt G hmem
  omega

set_option maxHeartbeats 8000000 in
theorem walk_steps (w : World) (A0 : Option Addr) (n0 cap0 : Nat) (f : Nat → Int) (hW : Wds w A0 n0 cap0 f) (A1 : Option Addr) (n1 cap1 : Nat) (E : Nat → Ent) (hE : Ents w [] A1 n1 cap1 E) (hEB : EB E n1) :
    Calls Try.prog 11 #[.slice A0 n0 cap0, .slice A1 n1 cap1] w fun e w' => e = .returned (.bool true) ∧ Keep [] w w' := by
  obtain ⟨i0, hi0, hz0, hz1, hz2⟩ := info_parts parts28
  obtain ⟨j0, hj0, hy0, hy1, hy2⟩ := info_parts parts46
  have hmm := @run_makeMap Try.prog
  have hm1 : (Instr.makeSlice 25 (.int .i64 64) (.int .i64 64)).run Try.prog w = _ := mk_words 64 (by omega) w
  have hmr := made_row w 64 (by omega)
  have k0 : Keep [] w (w.alloc (.cells (madeCells (Value.int .u64 0).cells (64 * 1)) 44)) := Keep.alloc _ _
  have hcap0 := hW.cap
  have hnc0 := hW.nc
  have hcap1 := hE.cap
  have hnc1 := hE.nc
  have hs0 : w.heap.size ≤ (w.alloc (.cells (madeCells (Value.int .u64 0).cells (64 * 1)) 44)).heap.size := by simp
  generalize madeCells (Value.int .u64 0).cells (64 * 1) = Z at *
  have HMR := Lib.hid hmr
  have HW := Lib.hid hW
  have HE := Lib.hid hE
  clear hmr hW hE
  obtain ⟨m, hm, hm60, hcase⟩ : ∃ m, m ≤ n0 ∧ m ≤ 60 ∧ ((60 < n0 ∧ m = 60) ∨ (¬ 60 < n0 ∧ m = n0)) := by
    by_cases h : 60 < n0
    · exact ⟨60, by omega, by omega, .inl ⟨h, rfl⟩⟩
    · exact ⟨n0, by omega, by omega, .inr ⟨h, rfl⟩⟩
  have hWm := Lib.hid ((HW.out.sub hm).keep k0)
  have hcl : (rowR 64 fun _ => 0) ++ rowR m f = rowR (64 + m) (cat 64 (fun _ => 0) f) := rowR_cat 64 m _ f
  have HCL := Lib.hid hcl
  clear hcl
  go_enter Try.func11, Try.ntmps11
  rcases hcase with ⟨h60, hmm'⟩ | ⟨h60, hmm'⟩
  · obtain ⟨b, o, hA0, hb, _⟩ := HW.out.cells (by omega)
    subst hA0
    have h60' : (60 : Int) < (n0 : Int) := by omega
    go_wp2_with (at_builtin; refine wpList_append_src rfl (.tmp 20) (.tmp 21) 25 rfl w.heap.size 44 i0 (.int .u64 0) 1 8 Try.underlying25 hi0 hz0 hz1 hz2 rfl (by omega) _ 64 (rowR 64 fun _ => 0) rfl HMR.out (some ⟨b, o, none⟩) 60 cap0 (rowR 60 f) rfl (by rw [rowR_len]) (by simp) (by have := hWm.out.news; rwa [hmm'] at this) (rowR_one _ _) (by simp [maxLen]) (by omega) hs0 ?_)
    intro v4 w4 hown4 hgrow4
    have hrow : w4.ownsRow w.heap.size 44 1 v4 (64 + m) (rowR (64 + m) (cat 64 (fun _ => 0) f)) := by
      rw [← HCL.out, hmm']
      exact hown4
    have hk4 : Keep [] w w4 := k0.into (Keep.grown (own := [w.heap.size]) hgrow4 (fun k _ e => by simp [Value.ownBlock] at e; simp [e])) (by simp)
    clear hown4 hgrow4 h60' hWm hmm'
    have HROW := Lib.hid (hrow.alloc (.cells #[.int .u64 1] 44))
    clear hrow HMR HCL
    go_wp2_with (at_builtin; refine wpList_append_src rfl (.tmp 22) (.tmp 23) 25 rfl w.heap.size 44 i0 (.int .u64 0) 1 8 Try.underlying25 hi0 hz0 hz1 hz2 rfl (by omega) _ (64 + m) _ rfl HROW.out (some ⟨w4.heap.size, 0, none⟩) 1 1 (rowR 1 fun _ => 1) rfl (by rw [rowR_len]) (by simp) (fun ad had j u hu => by injection had with had; subst had; exact cell_one_new _ _ _ j u hu) (rowR_one _ _) (by simp [maxLen]; omega) (by omega) (by have := hk4.size; simp; omega) ?_)
    intro v5 w5 hown5 hgrow5
    have hk5 : Keep [] w w5 := own_keptR (HROW.out) hgrow5 (hk4.trans (Keep.alloc _ _)) (Nat.le_refl _)
    rw [rowR_cat] at hown5
    obtain ⟨F, hF⟩ : ∃ F : Nat → Int, F = cat (64 + m) (cat 64 (fun _ => 0) f) (fun _ => 1) := ⟨_, rfl⟩
    rw [← hF] at hown5
    have hF0 : F 0 = 0 := by rw [hF]; simp [cat]
    obtain ⟨G, capG, rfl, hR, hG⟩ := rowR_row hown5 (by omega)
    have HF0 := Lib.hid hF0
    have HR := Lib.hid hR
    have hGl := hR.lt
    clear hown5 hgrow5 HROW hF hF0 hR hi0 hz0 hz1 hz2
    obtain ⟨n, hn⟩ : ∃ n, n = 64 + m + 1 := ⟨_, rfl⟩
    obtain ⟨d, hd⟩ : ∃ d, d = m + 1 := ⟨_, rfl⟩
    have hnb : 65 ≤ n ∧ n ≤ 125 := by omega
    have hdb : 1 ≤ d ∧ d ≤ 61 := by omega
    have hnd : (n : Int) - 64 = (d : Int) := by omega
    have HND := Lib.hid (show n = 64 + d by omega)
    rw [← hn] at HR ⊢
    have hGc := HR.out.cap_le
    have hGm := HR.out.cap_max
    unfold maxLen at hGm
    clear hn hd hm60 hm h60 HW
    have hMap := IMap.made w5
    have hMl : w5.heap.size < (w5.alloc (.map #[] 0)).heap.size := by simp
    have k56 : Keep [] w5 (w5.alloc (.map #[] 0)) := Keep.alloc _ _
    have HGE := Lib.hid (fun j => goodE_range (d := d) (by omega) E j)
    have HGB := Lib.hid (goodE_EB (d := d) (n := n1) (by omega) (by omega) hEB)
    have HLM := Lib.hid hMap
    have HHK := Lib.hid hk5
    clear hMap
    go_wp2_with fail
    generalize w5.alloc (.map #[] 0) = w6 at *
    have HMl := Lib.hid hMl
    generalize hM : w5.heap.size = M at *
    have hGM : G < M := by omega
    have HM5 := Lib.hid hM
    clear hMl hGl hM
    go_loopw [28, 6] (fun x y wr => SpRel w5 M n1 (goodE d E) x y wr) (fun x _ _ => n1 - (intOf x).toNat)
    case atStart => exact ⟨0, _, rfl, by omega, World.ownsRow_nil _ _ _ _, HLM.out.congr (fun k => by simp [lnH, seenB]) (fun _ => rfl) rfl, k56, HMl.out⟩
    case round =>
      obtain ⟨i, c, rfl, hi1, hrow, hmap, hK7, hMw⟩ := hrel
      have HRW := Lib.hid hrow
      have HMP := Lib.hid hmap
      clear hrow hmap
      by_cases hlt : i < n1
      · obtain ⟨b', o', hA', _, hb', hcc⟩ := (HE.out.lift (own := []) (HHK.out.trans hK7) (by simp)).cells (by omega)
        subst hA'
        obtain ⟨c0, c1⟩ := hcc i hlt
        have hlt' : (i : Int) < (n1 : Int) := by omega
        clear hcc
        by_cases h24 : i < 24
        · have h24' : (i : Int) < 24 := by omega
          have hmi : min i 24 = i := by omega
          rw [hmi] at HRW HMP
          obtain ⟨U, hU⟩ : ∃ U, IntKind.u64.wrap (E i).a = U := ⟨_, rfl⟩
          have hUr := u64_range (E i).a
          have hgi : goodE d E i = ⟨64 + U % (d : Int), (E i).v⟩ := by unfold goodE; rw [hU]
          rw [hU] at hUr
          have hr1 := Int.emod_nonneg U (b := (d : Int)) (by omega)
          have hr2 := Int.emod_lt_of_pos U (b := (d : Int)) (by omega)
          have htm : U.tmod (d : Int) = U % (d : Int) := Int.tmod_eq_emod_of_nonneg hUr.1
          generalize U % (d : Int) = r at *
          have HGI := Lib.hid hgi
          clear hgi hmi
          go_wp2_with (at_builtin; refine wpList_append_src rfl (.tmp 46) (.tmp 48) 26 rfl (M + 1) 46 j0 (.agg #[.int .i64 0, .int .u64 0]) 2 16 Try.underlying26 hj0 hy0 hy1 hy2 rfl (by omega) _ i (entsR (goodE d E) i) rfl (ownsRow_keep0 HRW.out ((Keep.alloc _ _).trans (Keep.alloc _ _))) (some ⟨_, 0, none⟩) 1 1 [.int .i64 (64 + r), .int .u64 (E i).v] rfl rfl (by simp) (ents_new _ ⟨64 + r, (E i).v⟩ _ (by simp)) (by intro u hu; simp at hu; rcases hu with rfl | rfl <;> rfl) (by simp [maxLen]; omega) (by omega) (by simp; omega) ?_)
          intro v8 w8 hown8 hgrow8
          have kk : Keep [] wr ((wr.alloc (.cells #[.int .i64 (64 + r), .int .u64 (E i).v] 46)).alloc (.cells #[.int .i64 (64 + r), .int .u64 (E i).v] 46)) := (Keep.alloc _ _).trans (Keep.alloc _ _)
          have hK8 : Keep [] w5 w8 := own_keptK (ownsRow_keep0 HRW.out kk) hgrow8 (hK7.trans kk) (by have := HM5.out; omega)
          have hM8 := own_keptM HRW.out kk hgrow8 HMP.out (by omega)
          have hB8 := own_keptB HRW.out kk hgrow8 ((Blk.new wr 46 #[.int .i64 (64 + r), .int .u64 (E i).v]).keep (own := []) (Keep.alloc _ (.cells #[.int .i64 (64 + r), .int .u64 (E i).v] 46)) (by simp)) (Nat.le_refl _)
          have cc0 := (hB8.cell 0).trans (show _ = some (Value.int .i64 (64 + r)) from rfl)
          have hrow8 : w8.ownsRow (M + 1) 46 2 v8 (i + 1) (entsR (goodE d E) (i + 1)) := by
            rw [entsR, HGI.out]
            exact hown8
          have HR8 := Lib.hid hrow8
          have HM8 := Lib.hid hM8
          have hsz8 : M < w8.heap.size := hM8.lt
          clear hown8 hgrow8 hrow8 hM8 hB8 kk c0 c1 HRW HMP
          go_wp2_with (at_mapUpdate; refine wpList_imap_put rfl _ _ _ rfl M i _ _ _ rfl HM8.out (by omega) ((64 + r) / 8) 1 rfl rfl (WalkArith.wf_i64 (by omega)) (WalkArith.wf_i64 (by omega)) ?_)
          intro w9 hm9 hk9
          have hGk := HGE.out i
          have hg0 : (goodE d E i).a = 64 + r := by rw [HGI.out]
          have hm10 : IMap w9 M (i + 1) (lnH (goodE d E) (i + 1)) (putC c ((64 + r) / 8) 1) (doFl (goodE d E) (i + 1)).length := hm9.congr (fun x => by rw [← hg0]; exact lnH_next (by omega) x) (fun _ => rfl) (by unfold putZ; rw [← hg0]; exact lnH_size (by omega))
          have hr10 := ownsRow_keep HR8.out hk9 (by simp)
          have hK10 : Keep [] w5 w9 := hK8.into hk9 (by simp; have := HM5.out; omega)
          have HM10 := Lib.hid hm10
          have HR10 := Lib.hid hr10
          have HMI := Lib.hid (show min (i + 1) 24 = i + 1 by omega)
          have hsz9 : M < w9.heap.size := hm10.lt
          clear hm9 hm10 hr10 HM8 HR8 hg0 cc0 hGk HGI
          go_wp2_with fail
          exact ⟨⟨i + 1, _, by go_num, by omega, by rw [HMI.out]; exact HR10.out, by rw [HMI.out]; exact HM10.out, hK10, hsz9⟩, by simp [intOf]; omega⟩
        · have h24' : ¬ (i : Int) < 24 := by omega
          have ki : Keep [] wr (wr.alloc (.cells #[.int .i64 (E i).a, .int .u64 (E i).v] 46)) := Keep.alloc _ _
          have hmi : min (i + 1) 24 = min i 24 := by omega
          have HMI := Lib.hid hmi
          have hsz : M < (wr.alloc (.cells #[.int .i64 (E i).a, .int .u64 (E i).v] 46)).heap.size := by simp; omega
          have HSZ := Lib.hid hsz
          clear hmi hsz
          go_wp2_with fail
          exact ⟨⟨i + 1, c, by go_num, by omega, by rw [HMI.out]; exact ownsRow_keep0 HRW.out ki, by rw [HMI.out]; exact HMP.out.keep ki (by simp), hK7.trans ki, HSZ.out⟩, by simp [intOf]; omega⟩
      · have hin : ¬ (i : Int) < (n1 : Int) := by omega
        obtain ⟨k, hk⟩ : ∃ k, k = min i 24 := ⟨_, rfl⟩
        rw [← hk] at HRW HMP
        have hkb : k ≤ 24 ∧ k ≤ n1 := by omega
        obtain ⟨A, capE, hv, hEn, hEg⟩ := Ents.of_owns HRW.out
        subst hv
        have hR7 := HR.out.keep hK7 (by simp)
        have hld := laid_any wr (some ⟨G, 0, none⟩) n capG F (Wds.row hR7) (by omega)
        have HEN := Lib.hid hEn
        have hsl := doFl_len (goodE d E) k
        have hk7 := HHK.out.trans hK7
        have hce := hEn.cap
        have hne := hEn.nc
        obtain ⟨sz, hsz⟩ : ∃ sz, (doFl (goodE d E) k).length = sz := ⟨_, rfl⟩
        rw [hsz] at HMP hsl
        have HSZ := Lib.hid hsz
        clear hsz hk hEn hEg hR7 HRW
        go_wp2_with fail
        (with_reducible refine hld.mono ?_)
        rintro e w10 ⟨L, T, rfl, hD, hT, hLf, hTf, hTl, hK11⟩
        have hMP := HMP.out.keep hK11 (by simp)
        have hk11 := hk7.trans hK11
        have hL7 : ∀ k ∈ L.own, w.heap.size ≤ k := fun k hk => by have := hLf k hk; have := hk7.size; omega
        have hML : M ∉ L.own := fun hm => by have := hLf M hm; omega
        obtain ⟨b1, b2, b3, b4⟩ := laidS_facts n F
        have hsn : 0 ≤ (laidS n F).steps ∧ (laidS n F).steps ≤ 1000 := by rw [b2]; unfold nl; omega
        have hnow : (laidS n F).now 0 = 0 := by rw [(laidS_pic n F (show 0 < n by omega)).1]; exact HF0.out
        have hst := steps_any w10 L _ hD
        have hwr := write_any w10 L _ hD 0 64 A k capE (goodE d E) (HEN.out.lift hK11 hLf) (fun j hj => HGB.out j (by omega)) (by omega) (by omega)
        obtain ⟨f1, f2⟩ := write_calm_steps (t := 64) (k := k) (E := goodE d E) b1 hnow (by rw [b3]; omega) (by rw [b3]; omega) (by omega) (by omega) (fun j hj => by
          have := HGE.out j
          have h2 := HND.out
          rw [b3]
          omega)
        have f1' : (writeR (laidS n F) 0 64 (goodE d E) k).2 = 0 := f1
        have f2' : (writeR (laidS n F) 0 64 (goodE d E) k).1.steps = _ := f2
        rw [HSZ.out] at f2'
        rw [f1'] at hwr
        have HWR := Lib.hid hwr
        have HMPP := Lib.hid hMP
        clear hld hT hLf hTf hTl b1 b2 b3 b4 hnow hD f1 f2 f1' hwr hMP HMP HEN hK11
        generalize (writeR (laidS n F) 0 64 (goodE d E) k).1 = Q1 at *
        generalize (laidS n F).steps = s0 at *
        have HF2 := Lib.hid f2'
        clear f2'
        go_wp2_with fail
        (with_reducible refine hst.mono ?_)
        rintro e w11 ⟨rfl, rfl⟩
        have hwr := HWR.out
        clear hst HWR
        go_wp2_with fail
        (with_reducible refine hwr.mono ?_)
        rintro e w12 ⟨rfl, hD12, hK12⟩
        have hk12 := hk11.into hK12 hL7
        have HM12 := Lib.hid (HMPP.out.keep hK12 hML)
        have hst := steps_any w12 L _ hD12
        have haw := awake_any w12
        have hf2 := HF2.out
        clear hwr HMPP hD12
        by_cases hk0 : k = 0
        · rw [if_pos hk0, Int.add_zero] at hf2
          rw [hf2] at hst
          subst hk0
          clear hf2 HF2
          go_wp2_with fail
          (with_reducible refine hst.mono ?_)
          rintro e w13 ⟨rfl, rfl⟩
          go_wp2_with fail
          (with_reducible refine haw.mono ?_)
          rintro e w14 ⟨rfl, hK14⟩
          go_wp2
          go_ret
          exact ⟨rfl, hk12.trans hK14⟩
        · rw [if_neg hk0] at hf2
          rw [hf2] at hst
          have hkp : (0 : Int) < (k : Int) := by omega
          clear hf2 HF2 hk0
          go_wp2_with (at_len; refine wpList_imap_len rfl _ rfl M k _ _ _ rfl HM12.out ?_)
          generalize hV : 2 * (k : Int) + (2 * (k : Int) + 8 - 1) / 8 + (k : Int) + (sz : Int) + 7 + 1 = V at *
          generalize hX : s0 + ((2 * k + (2 * k + 7) / 8 + k + sz + 8 : Nat) : Int) = s1 at hst
          have hd1 : s1 - s0 = V := by omega
          have hb1 : 0 ≤ s1 ∧ s1 ≤ 5000 := by omega
          clear hV hX
          (with_reducible refine hst.mono ?_)
          rintro e w13 ⟨rfl, rfl⟩
          clear hst
          go_wp2_with fail
          (with_reducible refine haw.mono ?_)
          rintro e w14 ⟨rfl, hK14⟩
          go_wp2
          go_ret
          exact ⟨rfl, hk12.trans hK14⟩
  · have h60' : ¬ (60 : Int) < (n0 : Int) := by omega
    subst hmm'
    go_wp2_with (at_builtin; refine wpList_append_src rfl (.tmp 20) (.tmp 21) 25 rfl w.heap.size 44 i0 (.int .u64 0) 1 8 Try.underlying25 hi0 hz0 hz1 hz2 rfl (by omega) _ 64 (rowR 64 fun _ => 0) rfl HMR.out A0 m cap0 (rowR m f) rfl (by rw [rowR_len]; omega) hWm.out.nil hWm.out.news (rowR_one _ _) (by simp [maxLen]; omega) (by omega) hs0 ?_)
    intro v4 w4 hown4 hgrow4
    have hrow : w4.ownsRow w.heap.size 44 1 v4 (64 + m) (rowR (64 + m) (cat 64 (fun _ => 0) f)) := by
      rw [← HCL.out]
      exact hown4
    have hk4 : Keep [] w w4 := k0.into (Keep.grown (own := [w.heap.size]) hgrow4 (fun k _ e => by simp [Value.ownBlock] at e; simp [e])) (by simp)
    clear hown4 hgrow4 h60' hWm
    have HROW := Lib.hid (hrow.alloc (.cells #[.int .u64 1] 44))
    clear hrow HMR HCL
    go_wp2_with (at_builtin; refine wpList_append_src rfl (.tmp 22) (.tmp 23) 25 rfl w.heap.size 44 i0 (.int .u64 0) 1 8 Try.underlying25 hi0 hz0 hz1 hz2 rfl (by omega) _ (64 + m) _ rfl HROW.out (some ⟨w4.heap.size, 0, none⟩) 1 1 (rowR 1 fun _ => 1) rfl (by rw [rowR_len]) (by simp) (fun ad had j u hu => by injection had with had; subst had; exact cell_one_new _ _ _ j u hu) (rowR_one _ _) (by simp [maxLen]; omega) (by omega) (by have := hk4.size; simp; omega) ?_)
    intro v5 w5 hown5 hgrow5
    have hk5 : Keep [] w w5 := own_keptR (HROW.out) hgrow5 (hk4.trans (Keep.alloc _ _)) (Nat.le_refl _)
    rw [rowR_cat] at hown5
    obtain ⟨F, hF⟩ : ∃ F : Nat → Int, F = cat (64 + m) (cat 64 (fun _ => 0) f) (fun _ => 1) := ⟨_, rfl⟩
    rw [← hF] at hown5
    have hF0 : F 0 = 0 := by rw [hF]; simp [cat]
    obtain ⟨G, capG, rfl, hR, hG⟩ := rowR_row hown5 (by omega)
    have HF0 := Lib.hid hF0
    have HR := Lib.hid hR
    have hGl := hR.lt
    clear hown5 hgrow5 HROW hF hF0 hR hi0 hz0 hz1 hz2
    obtain ⟨n, hn⟩ : ∃ n, n = 64 + m + 1 := ⟨_, rfl⟩
    obtain ⟨d, hd⟩ : ∃ d, d = m + 1 := ⟨_, rfl⟩
    have hnb : 65 ≤ n ∧ n ≤ 125 := by omega
    have hdb : 1 ≤ d ∧ d ≤ 61 := by omega
    have hnd : (n : Int) - 64 = (d : Int) := by omega
    have HND := Lib.hid (show n = 64 + d by omega)
    rw [← hn] at HR ⊢
    have hGc := HR.out.cap_le
    have hGm := HR.out.cap_max
    unfold maxLen at hGm
    clear hn hd hm60 hm h60 HW
    have hMap := IMap.made w5
    have hMl : w5.heap.size < (w5.alloc (.map #[] 0)).heap.size := by simp
    have k56 : Keep [] w5 (w5.alloc (.map #[] 0)) := Keep.alloc _ _
    have HGE := Lib.hid (fun j => goodE_range (d := d) (by omega) E j)
    have HGB := Lib.hid (goodE_EB (d := d) (n := n1) (by omega) (by omega) hEB)
    have HLM := Lib.hid hMap
    have HHK := Lib.hid hk5
    clear hMap
    go_wp2_with fail
    generalize w5.alloc (.map #[] 0) = w6 at *
    have HMl := Lib.hid hMl
    generalize hM : w5.heap.size = M at *
    have hGM : G < M := by omega
    have HM5 := Lib.hid hM
    clear hMl hGl hM
    go_loopw [28, 6] (fun x y wr => SpRel w5 M n1 (goodE d E) x y wr) (fun x _ _ => n1 - (intOf x).toNat)
    case atStart => exact ⟨0, _, rfl, by omega, World.ownsRow_nil _ _ _ _, HLM.out.congr (fun k => by simp [lnH, seenB]) (fun _ => rfl) rfl, k56, HMl.out⟩
    case round =>
      obtain ⟨i, c, rfl, hi1, hrow, hmap, hK7, hMw⟩ := hrel
      have HRW := Lib.hid hrow
      have HMP := Lib.hid hmap
      clear hrow hmap
      by_cases hlt : i < n1
      · obtain ⟨b', o', hA', _, hb', hcc⟩ := (HE.out.lift (own := []) (HHK.out.trans hK7) (by simp)).cells (by omega)
        subst hA'
        obtain ⟨c0, c1⟩ := hcc i hlt
        have hlt' : (i : Int) < (n1 : Int) := by omega
        clear hcc
        by_cases h24 : i < 24
        · have h24' : (i : Int) < 24 := by omega
          have hmi : min i 24 = i := by omega
          rw [hmi] at HRW HMP
          obtain ⟨U, hU⟩ : ∃ U, IntKind.u64.wrap (E i).a = U := ⟨_, rfl⟩
          have hUr := u64_range (E i).a
          have hgi : goodE d E i = ⟨64 + U % (d : Int), (E i).v⟩ := by unfold goodE; rw [hU]
          rw [hU] at hUr
          have hr1 := Int.emod_nonneg U (b := (d : Int)) (by omega)
          have hr2 := Int.emod_lt_of_pos U (b := (d : Int)) (by omega)
          have htm : U.tmod (d : Int) = U % (d : Int) := Int.tmod_eq_emod_of_nonneg hUr.1
          generalize U % (d : Int) = r at *
          have HGI := Lib.hid hgi
          clear hgi hmi
          go_wp2_with (at_builtin; refine wpList_append_src rfl (.tmp 46) (.tmp 48) 26 rfl (M + 1) 46 j0 (.agg #[.int .i64 0, .int .u64 0]) 2 16 Try.underlying26 hj0 hy0 hy1 hy2 rfl (by omega) _ i (entsR (goodE d E) i) rfl (ownsRow_keep0 HRW.out ((Keep.alloc _ _).trans (Keep.alloc _ _))) (some ⟨_, 0, none⟩) 1 1 [.int .i64 (64 + r), .int .u64 (E i).v] rfl rfl (by simp) (ents_new _ ⟨64 + r, (E i).v⟩ _ (by simp)) (by intro u hu; simp at hu; rcases hu with rfl | rfl <;> rfl) (by simp [maxLen]; omega) (by omega) (by simp; omega) ?_)
          intro v8 w8 hown8 hgrow8
          have kk : Keep [] wr ((wr.alloc (.cells #[.int .i64 (64 + r), .int .u64 (E i).v] 46)).alloc (.cells #[.int .i64 (64 + r), .int .u64 (E i).v] 46)) := (Keep.alloc _ _).trans (Keep.alloc _ _)
          have hK8 : Keep [] w5 w8 := own_keptK (ownsRow_keep0 HRW.out kk) hgrow8 (hK7.trans kk) (by have := HM5.out; omega)
          have hM8 := own_keptM HRW.out kk hgrow8 HMP.out (by omega)
          have hB8 := own_keptB HRW.out kk hgrow8 ((Blk.new wr 46 #[.int .i64 (64 + r), .int .u64 (E i).v]).keep (own := []) (Keep.alloc _ (.cells #[.int .i64 (64 + r), .int .u64 (E i).v] 46)) (by simp)) (Nat.le_refl _)
          have cc0 := (hB8.cell 0).trans (show _ = some (Value.int .i64 (64 + r)) from rfl)
          have hrow8 : w8.ownsRow (M + 1) 46 2 v8 (i + 1) (entsR (goodE d E) (i + 1)) := by
            rw [entsR, HGI.out]
            exact hown8
          have HR8 := Lib.hid hrow8
          have HM8 := Lib.hid hM8
          have hsz8 : M < w8.heap.size := hM8.lt
          clear hown8 hgrow8 hrow8 hM8 hB8 kk c0 c1 HRW HMP
          go_wp2_with (at_mapUpdate; refine wpList_imap_put rfl _ _ _ rfl M i _ _ _ rfl HM8.out (by omega) ((64 + r) / 8) 1 rfl rfl (WalkArith.wf_i64 (by omega)) (WalkArith.wf_i64 (by omega)) ?_)
          intro w9 hm9 hk9
          have hGk := HGE.out i
          have hg0 : (goodE d E i).a = 64 + r := by rw [HGI.out]
          have hm10 : IMap w9 M (i + 1) (lnH (goodE d E) (i + 1)) (putC c ((64 + r) / 8) 1) (doFl (goodE d E) (i + 1)).length := hm9.congr (fun x => by rw [← hg0]; exact lnH_next (by omega) x) (fun _ => rfl) (by unfold putZ; rw [← hg0]; exact lnH_size (by omega))
          have hr10 := ownsRow_keep HR8.out hk9 (by simp)
          have hK10 : Keep [] w5 w9 := hK8.into hk9 (by simp; have := HM5.out; omega)
          have HM10 := Lib.hid hm10
          have HR10 := Lib.hid hr10
          have HMI := Lib.hid (show min (i + 1) 24 = i + 1 by omega)
          have hsz9 : M < w9.heap.size := hm10.lt
          clear hm9 hm10 hr10 HM8 HR8 hg0 cc0 hGk HGI
          go_wp2_with fail
          exact ⟨⟨i + 1, _, by go_num, by omega, by rw [HMI.out]; exact HR10.out, by rw [HMI.out]; exact HM10.out, hK10, hsz9⟩, by simp [intOf]; omega⟩
        · have h24' : ¬ (i : Int) < 24 := by omega
          have ki : Keep [] wr (wr.alloc (.cells #[.int .i64 (E i).a, .int .u64 (E i).v] 46)) := Keep.alloc _ _
          have hmi : min (i + 1) 24 = min i 24 := by omega
          have HMI := Lib.hid hmi
          have hsz : M < (wr.alloc (.cells #[.int .i64 (E i).a, .int .u64 (E i).v] 46)).heap.size := by simp; omega
          have HSZ := Lib.hid hsz
          clear hmi hsz
          go_wp2_with fail
          exact ⟨⟨i + 1, c, by go_num, by omega, by rw [HMI.out]; exact ownsRow_keep0 HRW.out ki, by rw [HMI.out]; exact HMP.out.keep ki (by simp), hK7.trans ki, HSZ.out⟩, by simp [intOf]; omega⟩
      · have hin : ¬ (i : Int) < (n1 : Int) := by omega
        obtain ⟨k, hk⟩ : ∃ k, k = min i 24 := ⟨_, rfl⟩
        rw [← hk] at HRW HMP
        have hkb : k ≤ 24 ∧ k ≤ n1 := by omega
        obtain ⟨A, capE, hv, hEn, hEg⟩ := Ents.of_owns HRW.out
        subst hv
        have hR7 := HR.out.keep hK7 (by simp)
        have hld := laid_any wr (some ⟨G, 0, none⟩) n capG F (Wds.row hR7) (by omega)
        have HEN := Lib.hid hEn
        have hsl := doFl_len (goodE d E) k
        have hk7 := HHK.out.trans hK7
        have hce := hEn.cap
        have hne := hEn.nc
        obtain ⟨sz, hsz⟩ : ∃ sz, (doFl (goodE d E) k).length = sz := ⟨_, rfl⟩
        rw [hsz] at HMP hsl
        have HSZ := Lib.hid hsz
        clear hsz hk hEn hEg hR7 HRW
        go_wp2_with fail
        (with_reducible refine hld.mono ?_)
        rintro e w10 ⟨L, T, rfl, hD, hT, hLf, hTf, hTl, hK11⟩
        have hMP := HMP.out.keep hK11 (by simp)
        have hk11 := hk7.trans hK11
        have hL7 : ∀ k ∈ L.own, w.heap.size ≤ k := fun k hk => by have := hLf k hk; have := hk7.size; omega
        have hML : M ∉ L.own := fun hm => by have := hLf M hm; omega
        obtain ⟨b1, b2, b3, b4⟩ := laidS_facts n F
        have hsn : 0 ≤ (laidS n F).steps ∧ (laidS n F).steps ≤ 1000 := by rw [b2]; unfold nl; omega
        have hnow : (laidS n F).now 0 = 0 := by rw [(laidS_pic n F (show 0 < n by omega)).1]; exact HF0.out
        have hst := steps_any w10 L _ hD
        have hwr := write_any w10 L _ hD 0 64 A k capE (goodE d E) (HEN.out.lift hK11 hLf) (fun j hj => HGB.out j (by omega)) (by omega) (by omega)
        obtain ⟨f1, f2⟩ := write_calm_steps (t := 64) (k := k) (E := goodE d E) b1 hnow (by rw [b3]; omega) (by rw [b3]; omega) (by omega) (by omega) (fun j hj => by
          have := HGE.out j
          have h2 := HND.out
          rw [b3]
          omega)
        have f1' : (writeR (laidS n F) 0 64 (goodE d E) k).2 = 0 := f1
        have f2' : (writeR (laidS n F) 0 64 (goodE d E) k).1.steps = _ := f2
        rw [HSZ.out] at f2'
        rw [f1'] at hwr
        have HWR := Lib.hid hwr
        have HMPP := Lib.hid hMP
        clear hld hT hLf hTf hTl b1 b2 b3 b4 hnow hD f1 f2 f1' hwr hMP HMP HEN hK11
        generalize (writeR (laidS n F) 0 64 (goodE d E) k).1 = Q1 at *
        generalize (laidS n F).steps = s0 at *
        have HF2 := Lib.hid f2'
        clear f2'
        go_wp2_with fail
        (with_reducible refine hst.mono ?_)
        rintro e w11 ⟨rfl, rfl⟩
        have hwr := HWR.out
        clear hst HWR
        go_wp2_with fail
        (with_reducible refine hwr.mono ?_)
        rintro e w12 ⟨rfl, hD12, hK12⟩
        have hk12 := hk11.into hK12 hL7
        have HM12 := Lib.hid (HMPP.out.keep hK12 hML)
        have hst := steps_any w12 L _ hD12
        have haw := awake_any w12
        have hf2 := HF2.out
        clear hwr HMPP hD12
        by_cases hk0 : k = 0
        · rw [if_pos hk0, Int.add_zero] at hf2
          rw [hf2] at hst
          subst hk0
          clear hf2 HF2
          go_wp2_with fail
          (with_reducible refine hst.mono ?_)
          rintro e w13 ⟨rfl, rfl⟩
          go_wp2_with fail
          (with_reducible refine haw.mono ?_)
          rintro e w14 ⟨rfl, hK14⟩
          go_wp2
          go_ret
          exact ⟨rfl, hk12.trans hK14⟩
        · rw [if_neg hk0] at hf2
          rw [hf2] at hst
          have hkp : (0 : Int) < (k : Int) := by omega
          clear hf2 HF2 hk0
          go_wp2_with (at_len; refine wpList_imap_len rfl _ rfl M k _ _ _ rfl HM12.out ?_)
          generalize hV : 2 * (k : Int) + (2 * (k : Int) + 8 - 1) / 8 + (k : Int) + (sz : Int) + 7 + 1 = V at *
          generalize hX : s0 + ((2 * k + (2 * k + 7) / 8 + k + sz + 8 : Nat) : Int) = s1 at hst
          have hd1 : s1 - s0 = V := by omega
          have hb1 : 0 ≤ s1 ∧ s1 ≤ 5000 := by omega
          clear hV hX
          (with_reducible refine hst.mono ?_)
          rintro e w13 ⟨rfl, rfl⟩
          clear hst
          go_wp2_with fail
          (with_reducible refine haw.mono ?_)
          rintro e w14 ⟨rfl, hK14⟩
          go_wp2
          go_ret
          exact ⟨rfl, hk12.trans hK14⟩
end Go.Proofs.Ytejhdmpobaffcaa
