/-
  The program's package graph: walk, from node to node by goto; Reach. No conditions but what is in memory.
-/
import Derived.Test.YtigclopkoolocaaDoorGd3
import Derived.Test.YtigclopkoolocaaDoorRound
namespace Go.Flo
open Go.RowKit Go.Bit
theorem keep_below2 {w wb wr : World} {B : Nat} (h : Keep [] w wb) (k : Below B wb wr) (hB : w.heap.size ≤ B) : Keep [] w wr :=
  ⟨k.os.trans h.os, k.tape.trans h.tape, k.output.trans h.output, Nat.le_trans h.size k.size, fun i hi hm => (k.block i (by omega)).trans (h.block i hi hm)⟩
theorem Blk.set2 {w : World} {g : Nat} {t : TypeId} {z0 z1 : Value} (h : Blk w g t #[z0, z1]) (a b : Value) :
    Blk ((w.setCell ⟨g, 0, none⟩ a).setCell ⟨g, 1, none⟩ b) g t #[a, b] := (h.set_ 0 a).set_ 1 b
end Go.Flo
namespace Go.Proofs.YtigclopkoolocaaDoor
open Go.RowKit Go.Flo Go.Bit
set_option maxRecDepth 100000

/-- A walk, told. -/
def WalkPost (R : List Nat) (n : Nat) (w : World) (e : Ending) (w' : World) : Prop :=
  ∃ A c s, e = .returned (.agg #[.slice A R.length c, .slice (some ⟨s, 0, none⟩) n n]) ∧ IntL w' A c (natI R) ∧ Row w' 3 s n n (fun i => .int .i64 (place R (i : Nat))) ∧ Keep [] w w'

/-- What holds at the label of walk. -/
def WalkJ (w5 : World) (g : Gr) (R : List Nat) (b0 r s n : Nat) (a0 a1 : Value) (a' : Act) (w' : World) : Prop :=
  ∃ (k f : Nat) (row : List Nat) (u3 u6 u7 u9 u10 u11 u12 u13 u14 u15 u16 u17 u18 u19 u20 u21 u22 u23 u24 u25 u26 u27 u28 u29 u30 u31 u32 u33 u34 u35 u36 u37 u38 u39 u40 u41 u42 u43 u44 u45 u46 u47 u48 u49 u50 u51 u52 u53 u54 u55 u56 u57 u58 : Value),
    a' = { tmps := #[a0, a1, .pointer (some ⟨b0, 0, none⟩), u3, .pointer (some ⟨b0 + 1, 0, none⟩), .pointer (some ⟨r, 0, none⟩), u6, u7, .int .i64 (k : Nat), u9, u10, u11, u12, u13, u14, u15, u16, u17, u18, u19, u20, u21, u22, u23, u24, u25, u26, u27, u28, u29, u30, u31, u32, u33, u34, u35, u36, u37, u38, u39, u40, u41, u42, u43, u44, u45, u46, u47, u48, u49, u50, u51, u52, u53, u54, u55, u56, u57, u58], defers := [] }
    ∧ f + k = n + 1 ∧ k ≤ row.length ∧ walkR g f k row = R ∧ Wkd w' r s (r + 1) n row ∧ Below (b0 + 2) w5 w'

set_option maxHeartbeats 4000000 in
theorem walk_any (w : World) (A0 A1 A2 Al : Option Addr) (c0 c1 c2 cl : Nat) (g : Gr) (l : List Int) (h : GIn w A0 A1 A2 c0 c1 c2 g) (hm : MayG g) (hl : IntL w Al cl l) :
    Calls Tryd.prog 20 #[.agg #[.slice A0 g.nodes.length c0, .slice A1 g.roots.length c1, .slice A2 g.weaks.length c2], .slice Al l.length cl] w (WalkPost (orderG g l) g.n w) := by
  obtain ⟨n, hnn⟩ : ∃ n, g.n = n := ⟨_, rfl⟩
  have hnl : g.nodes.length = n := hnn
  rw [hnl, hnn]
  have hn := hm.1
  have hMay := Lib.hid (show ∀ i, i < n → ∀ v ∈ (g.at i).fs, v.K = 3 → 0 ≤ v.r ∧ v.r < n from fun i hi v hv h3 => by
    have := (hm.2.2.2 _ (at_mem (g := g) (i := i) (by rw [hnn]; exact hi)) v hv).2.2 h3
    rwa [hnn] at this)
  clear hm
  generalize g.roots.length = nr at *
  generalize g.weaks.length = nw at *
  have hlc := hl.nc
  have hlm := hl.cap
  have HI := Lib.hid h.nodes
  have HL := Lib.hid hl
  obtain ⟨q, hq⟩ : ∃ q, l.length = q := ⟨_, rfl⟩
  rw [hq] at hlc ⊢
  have HQ := Lib.hid (And.intro hq (And.intro hnn hnl))
  rw [hnn] at hn
  have hnc := h.nodes.nc
  have hncm := h.nodes.cap
  rw [hnl] at hnc
  have HIP := Lib.hid (fun i W => isPlace_any A0 A1 A2 n nr nw c0 c1 c2 (by omega) i W)
  have HQR := Lib.hid (show orderG g l = walkR g (n + 1) 0 (puts n [] l) by unfold orderG; rw [hnn])
  clear h hl hq hnn hnl
  obtain ⟨R, hR⟩ : ∃ R, orderG g l = R := ⟨_, rfl⟩
  rw [hR] at HQR ⊢
  clear hR
  have ka1 : Keep [] w (w.alloc (.cells #[.slice A0 n c0, .slice A1 nr c1, .slice A2 nw c2] 25)) := Keep.alloc _ _
  have hb1 := Blk.new w 25 #[.slice A0 n c0, .slice A1 nr c1, .slice A2 nw c2]
  obtain ⟨w1, hw1⟩ : ∃ w1, w1 = w.alloc (.cells #[.slice A0 n c0, .slice A1 nr c1, .slice A2 nw c2] 25) := ⟨_, rfl⟩
  have hz1 : w1.heap.size = w.heap.size + 1 := by rw [hw1]; simp
  rw [← hw1] at ka1 hb1
  have ka2 : Keep [] w1 (w1.alloc (.cells #[.slice none 0 0, .slice none 0 0] 42)) := Keep.alloc _ _
  have hb2 := Blk.new w1 42 #[.slice none 0 0, .slice none 0 0]
  obtain ⟨w2, hw2⟩ : ∃ w2, w2 = w1.alloc (.cells #[.slice none 0 0, .slice none 0 0] 42) := ⟨_, rfl⟩
  have hz2 : w2.heap.size = w.heap.size + 2 := by rw [hw2]; simp [hz1]
  rw [← hw2] at ka2 hb2
  rw [hz1] at hb2
  have ka3 : Keep [] w2 (w2.alloc (.cells #[.int .i64 (-1)] 3)) := Keep.alloc _ _
  have hb3 := Blk.new w2 3 #[.int .i64 (-1)]
  obtain ⟨w3, hw3⟩ : ∃ w3, w3 = w2.alloc (.cells #[.int .i64 (-1)] 3) := ⟨_, rfl⟩
  have hz3 : w3.heap.size = w.heap.size + 3 := by rw [hw3]; simp [hz2]
  rw [← hw3] at ka3 hb3
  rw [hz2] at hb3
  have hrep := repeat_any n (w.heap.size + 2) 1 (-1) (by omega) w3 ((hb3.cell 0).trans rfl)
  rw [hz3] at hrep
  have hbox := (hb1.keep ka2 (by simp)).keep ka3 (by simp)
  have hres := hb2.keep ka3 (by simp)
  have x0 := (hbox.cell 0).trans (show _ = some (Value.slice A0 n c0) from rfl)
  have HW := Lib.hid (And.intro hbox (And.intro hres ((ka1.trans ka2).trans ka3)))
  have hw3' : w3 = ((w.alloc (.cells #[.slice A0 n c0, .slice A1 nr c1, .slice A2 nw c2] 25)).alloc (.cells #[.slice none 0 0, .slice none 0 0] 42)).alloc (.cells #[.int .i64 (-1)] 3) := by rw [hw3, hw2, hw1]
  clear hbox hres ka1 ka2 ka3 hb1 hb2 hb3 hz1 hz2 hw3 hw2 hw1
  go_enter Tryd.func20, Tryd.ntmps20
  go_wp2_with fail
  have HW3 := Lib.hid hw3'
  clear hw3'
  refine wp_scope_round 0 (fun a' w' => ∃ (w5 : World) (r : Nat), Keep [] w3 w5 ∧ w.heap.size + 3 < r ∧ r < w5.heap.size ∧ WalkJ w5 g R w.heap.size r (w.heap.size + 3) n (.agg #[.slice A0 n c0, .slice A1 nr c1, .slice A2 nw c2]) (.slice Al q cl) a' w') (fun a' _ => n + 1 - slotNat 8 a') rfl ?_ ?_
  · rintro a' w' ⟨w5, r, hk5, hr3', hr5, k, f, row, u3, u6, u7, u9, u10, u11, u12, u13, u14, u15, u16, u17, u18, u19, u20, u21, u22, u23, u24, u25, u26, u27, u28, u29, u30, u31, u32, u33, u34, u35, u36, u37, u38, u39, u40, u41, u42, u43, u44, u45, u46, u47, u48, u49, u50, u51, u52, u53, u54, u55, u56, u57, u58, rfl, hfk, hk, hwk, hr, hbl⟩
    have hKw : Keep [] w w' := keep_below2 (HW.out.2.2.trans hk5) hbl (by omega)
    obtain ⟨A, c, hbr, hir⟩ := hr.below
    have cr0 := (hbr.cell 0).trans (show _ = some (Value.slice A row.length c) from rfl)
    have cr1 := (hbr.cell 1).trans (show _ = some (Value.slice (some ⟨w.heap.size + 3, 0, none⟩) n n) from rfl)
    have hbg := blk_below (HW.out.1.keep hk5 (by simp)) hbl (by omega)
    have hbo := blk_below (HW.out.2.1.keep hk5 (by simp)) hbl (by omega)
    by_cases hkl : k < row.length
    case neg =>
      rw [walkR_done g f k row (by omega)] at hwk
      obtain rfl : k = row.length := by omega
      have z0 := (hbo.cell 0).trans (show _ = some (Value.slice none 0 0) from rfl)
      have z1 := (hbo.cell 1).trans (show _ = some (Value.slice none 0 0) from rfl)
      have f0 := hbo.frozen 0
      have f1 := hbo.frozen 1
      have hb5 := Blk.set2 hbo (.slice A row.length c) (.slice (some ⟨w.heap.size + 3, 0, none⟩) n n)
      have HE := Lib.hid (And.intro hwk (And.intro hr (And.intro hir hKw)))
      have kg : (Tryd.prog.info? 42).map (·.size) = some (#[.slice A row.length c, .slice (some ⟨w.heap.size + 3, 0, none⟩) n n] : Array Value).size := by kernel_rfl
      clear hwk hir hbl hr hbr hbg hbo hKw hk5
      go_wp2_with fail
      apply jump_ret
      refine bodyPost_ret (v := .agg #[.slice A row.length c, .slice (some ⟨w.heap.size + 3, 0, none⟩) n n]) ?_ rfl ?_
      · exact results_cell_row rfl _ _ (w.heap.size + 1) 42 #[.slice A row.length c, .slice (some ⟨w.heap.size + 3, 0, none⟩) n n] (0, 0) _ rfl hb5 Tryd.underlying42 rfl kg
      obtain ⟨hwk, hr, hir, hKw⟩ := HE.out
      have hk6 : Keep [w.heap.size + 1] w' ((w'.setCell ⟨w.heap.size + 1, 0, none⟩ (.slice A row.length c)).setCell ⟨w.heap.size + 1, 1, none⟩ (.slice (some ⟨w.heap.size + 3, 0, none⟩) n n)) := (Keep.setCell _ _ (by simp) _).trans (Keep.setCell _ _ (by simp) _)
      have hir6 : IntL ((w'.setCell ⟨w.heap.size + 1, 0, none⟩ (.slice A row.length c)).setCell ⟨w.heap.size + 1, 1, none⟩ (.slice (some ⟨w.heap.size + 3, 0, none⟩) n n)) A c (natI row) := by
        obtain ⟨v, q1, q2⟩ := hr.blk
        obtain rfl : v = .slice A row.length c := by
          have := (q1.cell 0).symm.trans cr0
          simpa using this
        rw [natv_map, ← natI_len] at q2
        have q3 := ownsRow_setCell_below (ownsRow_setCell_below q2 (a := ⟨w.heap.size + 1, 0, none⟩) (by show w.heap.size + 1 < r + 1; omega) (.slice A row.length c)) (a := ⟨w.heap.size + 1, 1, none⟩) (by show w.heap.size + 1 < r + 1; omega) (.slice (some ⟨w.heap.size + 3, 0, none⟩) n n)
        obtain ⟨A9, c9, e9, h9⟩ := owns_intl q3
        simp only [Value.slice.injEq] at e9
        obtain ⟨rfl, _, rfl⟩ := e9
        exact h9
      have hpl := hr.places.keep hk6 (by simp)
      rw [← hwk]
      exact ⟨A, c, w.heap.size + 3, rfl, hir6, hpl, hKw.since hk6 (by simp)⟩
    obtain ⟨bR, oR, rfl, hbR, hcR⟩ := hir.cells (by rw [natI_len]; omega)
    have ck := hcR k (by rw [natI_len]; exact hkl)
    rw [natI_get row hkl] at ck
    have hmem : row.getD k 0 ∈ row := getD_mem hkl
    have hin := hr.fine.2 _ hmem
    have hst := fun f' => walkR_step g f' k row hkl
    obtain ⟨f', rfl⟩ : ∃ f', f = f' + 1 := by
      have := hr.fine.len
      exact ⟨f - 1, by omega⟩
    rw [hst f', HQ.out.2.1] at hwk
    obtain ⟨i, hi⟩ : ∃ i, row.getD k 0 = i := ⟨_, rfl⟩
    rw [hi] at ck hin hwk
    obtain ⟨bN, oN, rfl, hbN, hcN⟩ := HI.out.cells (by rw [HQ.out.2.2]; omega)
    obtain ⟨AF, cF, e0, e1, hvF⟩ := hcN i (by rw [HQ.out.2.2]; exact hin)
    have hfs : (g.nodes.getD i nod0) = g.at i := rfl
    rw [hfs] at e1 hvF
    have cN := (hKw.cell (p := ⟨bN, _, none⟩) hbN (by simp)).trans e1
    have cb := (hbg.cell 0).trans (show _ = some (Value.slice (some ⟨bN, oN, none⟩) n c0) from rfl)
    obtain ⟨fs, hfse⟩ : ∃ fs, (g.at i).fs = fs := ⟨_, rfl⟩
    rw [hfse] at cN hvF hwk
    have hfc := hvF.nc
    have hfm := hvF.cap
    obtain ⟨mF, hmF⟩ : ∃ mF, fs.length = mF := ⟨_, rfl⟩
    rw [hmF] at cN hfc
    have hk1 : (k : Int) < row.length := by omega
    have hi1 : (i : Int) < n := by omega
    have hrl := hr.fine.len
    have hkne : ((k : Int) == (row.length : Nat)) = false := by simp; omega
    have HRL := Lib.hid (show ∀ v ∈ fs, v.K = 3 → 0 ≤ v.r ∧ v.r < n from fun v hv h3 => by
      have := hMay.out i hin v (by rw [hfse]; exact hv) h3
      exact this)
    have HV := Lib.hid (And.intro hvF hmF)
    have HR2 := Lib.hid (And.intro hr (And.intro hbl hKw))
    have HWK := Lib.hid hwk
    have HP := Lib.hid (puts_prefix n (refsOf fs) row)
    have H55 := Lib.hid hk5
    clear hir hcR hmem hst hi hcN e0 e1 hfs hfse hvF hwk hr hbl hKw hmF hbr hbg hbo cr1 hk5
    go_wp2_with fail
    go_quiet (fail)
    go_wp2
    go_loopw [46] (fun x wq => ∃ j : Nat, j ≤ mF ∧ x = .int .i64 j ∧ Wkd wq r (w.heap.size + 3) (r + 1) n (puts n row (refsOf (fs.take j))) ∧ Below (w.heap.size + 2) w5 wq) (fun x _ => mF - (RowKit.intOf x).toNat)
    case atStart => exact ⟨0, by omega, rfl, HR2.out.1.keep (Keep.dr (Dr.drewN _ _)), below_of HR2.out.2.1 (Keep.dr (Dr.drewN _ _)) (by have := HR2.out.1.Bw; omega)⟩
    case round =>
    obtain ⟨j, hj, rfl, hr3, hb3⟩ := hrel
    by_cases hjt : j < mF
    case neg =>
      obtain rfl : j = mF := by omega
      rw [show fs.take j = fs by rw [← HV.out.2]; exact List.take_length] at hr3
      have HR3 := Lib.hid (And.intro hr3 hb3)
      have hle := HP.out.length_le
      clear hr3 hb3
      go_wp2_with fail
      go_step3
      apply jump_goto
      refine ⟨⟨w5, r, H55.out, hr3', hr5, k + 1, f', _, _, _, _, _, _, _, _, _, _, _, _, _, _, _, _, _, _, _, _, _, _, _, _, _, _, _, _, _, _, _, _, _, _, _, _, _, _, _, _, _, _, _, _, _, _, _, _, _, _, _, _, _, _, rfl, by omega, by omega, HWK.out, HR3.out.1, HR3.out.2⟩, ?_⟩
      simp [slotNat]
      omega
    have hKq := keep_below2 (HW.out.2.2.trans H55.out) hb3 (by omega)
    obtain ⟨bF, oF, rfl, hbF, hcF⟩ := HV.out.1.cells (by rw [HV.out.2]; omega)
    obtain ⟨q0, q1, q2, q3, q4⟩ := hcF j (by rw [HV.out.2]; exact hjt)
    have d0 := (hKq.cell (p := ⟨bF, _, none⟩) hbF (by simp)).trans q0
    have d1 := (hKq.cell (p := ⟨bF, _, none⟩) hbF (by simp)).trans q1
    have d2 := (hKq.cell (p := ⟨bF, _, none⟩) hbF (by simp)).trans q2
    have d3 := (hKq.cell (p := ⟨bF, _, none⟩) hbF (by simp)).trans q3
    have d4 := (hKq.cell (p := ⟨bF, _, none⟩) hbF (by simp)).trans q4
    have hrt := refsOf_take (l := fs) (j := j) (by rw [HV.out.2]; exact hjt)
    have hmemV : fs.getD j z0 ∈ fs := getD_mem (by rw [HV.out.2]; exact hjt)
    have hvr := HRL.out _ hmemV
    obtain ⟨V, hV⟩ : ∃ V, fs.getD j z0 = V := ⟨_, rfl⟩
    rw [hV] at d0 d1 d2 d3 d4 hrt hvr
    obtain ⟨x0, x1, x2, x3, x4⟩ := V
    dsimp only at d0 d1 d2 d3 d4 hrt hvr
    have ka : Keep [] wr (wr.alloc (.cells #[.int .i64 x0, .int .i64 x1, .int .u64 x2, .int .u64 x3, .int .i64 x4] 36)) := Keep.alloc _ _
    have hr4 := hr3.keep ka
    have hb4 := below_of hb3 ka (by have := hr3.Bw; omega)
    clear hKq hcF q0 q1 q2 q3 q4 hV hr3 hb3 ka hmemV
    by_cases h3 : x0 = 3
    · subst h3
      rw [if_pos rfl] at hrt
      have hvr := hvr rfl
      have hput := wreach_any _ _ _ _ _ _ x4 hr4 (by omega) hvr.1 hvr.2
      have HT := Lib.hid (show puts n row (refsOf (fs.take (j + 1))) = put n (puts n row (refsOf (fs.take j))) x4 by rw [hrt, puts_append]; rfl)
      rw [← HT.out] at hput
      have HB4 := Lib.hid hb4
      clear hrt hr4 hb4
      go_wp2_with fail
      (with_reducible refine hput.mono ?_)
      rintro e w6 ⟨rfl, hr6, hb6⟩
      have HR6 := Lib.hid (And.intro hr6 (HB4.out.trans (hb6 _ (by omega) (by omega) (by omega))))
      clear hput hr6 hb6 d0 d1 d2 d3 d4
      go_wp2
      go_roundw
      case rel => exact ⟨j + 1, by omega, by go_num, HR6.out.1, HR6.out.2⟩
      case measure => simp [RowKit.intOf]; omega
    · rw [if_neg h3, List.append_nil] at hrt
      have h3' : (x0 == 3) = false := by simpa using h3
      have HR5 := Lib.hid (And.intro hr4 (And.intro hb4 hrt))
      clear hrt hr4 hb4 hvr
      go_wp2
      go_roundw
      case rel => exact ⟨j + 1, by omega, by go_num, by rw [HR5.out.2.2]; exact HR5.out.1, HR5.out.2.1⟩
      case measure => simp [RowKit.intOf]; omega
  · intro hfirst
    have HF := Lib.hid hfirst
    clear hfirst
    go_wp2_with fail
    rw [← HW3.out]
    (with_reducible refine hrep.mono ?_)
    rintro e w4 ⟨rfl, hrow4, k4⟩
    clear hrep HW3 x0
    have hb5 := Blk.new w4 42 #[.slice none 0 0, .slice (some ⟨w.heap.size + 3, 0, none⟩) n n]
    have k5 : Keep [] w4 (w4.alloc (.cells #[.slice none 0 0, .slice (some ⟨w.heap.size + 3, 0, none⟩) n n] 42)) := Keep.alloc _ _
    obtain ⟨w5, hw5⟩ : ∃ w5, w5 = w4.alloc (.cells #[.slice none 0 0, .slice (some ⟨w.heap.size + 3, 0, none⟩) n n] 42) := ⟨_, rfl⟩
    rw [← hw5] at hb5 k5
    have hr3 : w.heap.size + 3 < w4.heap.size := hrow4.lt
    have hr5 : w4.heap.size < w5.heap.size := hb5.lt
    have hwd : Wkd w5 w4.heap.size (w.heap.size + 3) (w4.heap.size + 1) n [] := ⟨⟨.slice none 0 0, hb5, ⟨rfl, Or.inl ⟨rfl, rfl⟩⟩⟩, (hrow4.keep k5 (by simp)).congr (fun i hi => by rw [place_nil]), by omega, by omega, by omega, by omega, Fine.nil n⟩
    have hbox5 := HW.out.1.keep (k4.trans k5) (by simp)
    have H5 := Lib.hid (And.intro hwd (And.intro (k4.trans k5) (And.intro hbox5 (HW.out.2.2.trans (k4.trans k5)))))
    have HW5 := Lib.hid hw5
    clear hwd k4 k5 hb5 hrow4 hw5 hbox5
    obtain ⟨r, hrr⟩ : ∃ r, w4.heap.size = r := ⟨_, rfl⟩
    rw [hrr] at H5 hr3 hr5
    go_wp2
    rw [← HW5.out]
    clear hrr HW5
    go_loopw [19] (fun x wr => ∃ j : Nat, j ≤ q ∧ x = .int .i64 j ∧ Wkd wr r (w.heap.size + 3) (r + 1) n (puts n [] (l.take j)) ∧ Below (w.heap.size + 2) w5 wr) (fun x _ => q - (RowKit.intOf x).toNat)
    case atStart => exact ⟨0, by omega, rfl, H5.out.1, Below.refl _ _⟩
    case round =>
    obtain ⟨j, hj, rfl, hr, hbl⟩ := hrel
    by_cases hlt : j < q
    case neg =>
      obtain rfl : j = q := by omega
      rw [show l.take j = l by rw [← HQ.out.1]; exact List.take_length] at hr
      have HR := Lib.hid (And.intro hr hbl)
      clear hr hbl
      go_wp2_with fail
      go_step3
      rename_i hK
      refine hK _ _ (HF.out _ _ ⟨w5, r, H5.out.2.1, hr3, hr5, 0, n + 1, _, _, _, _, _, _, _, _, _, _, _, _, _, _, _, _, _, _, _, _, _, _, _, _, _, _, _, _, _, _, _, _, _, _, _, _, _, _, _, _, _, _, _, _, _, _, _, _, _, _, _, _, _, _, rfl, by omega, by omega, HQR.out.symm, HR.out.1, HR.out.2⟩)
    obtain ⟨bl, ol, rfl, hbl2, hcl⟩ := (HL.out.keep (keep_below2 H5.out.2.2.2 hbl (by omega))).cells (by rw [HQ.out.1]; omega)
    have cj := hcl j (by rw [HQ.out.1]; exact hlt)
    have hbg := blk_below H5.out.2.2.1 hbl (by omega)
    have g0 := (hbg.cell 0).trans (show _ = some (Value.slice A0 n c0) from rfl)
    have g1 := (hbg.cell 1).trans (show _ = some (Value.slice A1 nr c1) from rfl)
    have g2 := (hbg.cell 2).trans (show _ = some (Value.slice A2 nw c2) from rfl)
    have HT := Lib.hid (show puts n [] (l.take (j + 1)) = put n (puts n [] (l.take j)) (l.getD j 0) by rw [take_next (by rw [HQ.out.1]; exact hlt), puts_append]; rfl)
    have HBL := Lib.hid (And.intro hr hbl)
    generalize l.getD j 0 = y at *
    have hip := HIP.out y wr
    clear hcl hr hbl hbg
    by_cases hy : 0 ≤ y ∧ y < n
    · rw [decide_eq_true hy] at hip
      go_wp2_with fail
      (with_reducible refine hip.mono ?_)
      rintro e w6 ⟨rfl, k6⟩
      have hput := wreach_any w6 r (w.heap.size + 3) (r + 1) n (puts n [] (l.take j)) y (HBL.out.1.keep k6) (by omega) hy.1 hy.2
      rw [← HT.out] at hput
      have HB6 := Lib.hid (below_of HBL.out.2 k6 (by have := HBL.out.1.Bw; omega))
      clear hip k6 g0 g1 g2 cj
      go_wp2_with fail
      (with_reducible refine hput.mono ?_)
      rintro e w7 ⟨rfl, hr7, hb7⟩
      have HR7 := Lib.hid (And.intro hr7 (HB6.out.trans (hb7 _ (by omega) (by omega) (by omega))))
      clear hput hr7 hb7
      go_wp2
      go_roundw
      case rel => exact ⟨j + 1, by omega, by go_num, HR7.out.1, HR7.out.2⟩
      case measure => simp [RowKit.intOf]; omega
    · rw [decide_eq_false hy] at hip
      have HN := Lib.hid (show put n (puts n [] (l.take j)) y = puts n [] (l.take j) from if_neg (fun e => hy ⟨e.1, e.2.1⟩))
      clear hy
      go_wp2_with fail
      (with_reducible refine hip.mono ?_)
      rintro e w6 ⟨rfl, k6⟩
      have HB6 := Lib.hid (And.intro (HBL.out.1.keep k6) (below_of HBL.out.2 k6 (by have := HBL.out.1.Bw; omega)))
      clear hip k6 g0 g1 g2 cj
      go_wp2
      go_roundw
      case rel => exact ⟨j + 1, by omega, by go_num, by rw [HT.out, HN.out]; exact HB6.out.1, HB6.out.2⟩
      case measure => simp [RowKit.intOf]; omega
end Go.Proofs.YtigclopkoolocaaDoor
