/-
  The document's twin of package graph: order, the nodes as a walk comes to them. No conditions but what is in memory.
-/
import Derived.Test.YtigclopkoolocaaDoorGr1
import Derived.BigQuiet
namespace Go.Flo
open Go.RowKit Go.Bit

def natI (l : List Nat) : List Int := l.map fun (i : Nat) => (i : Int)
theorem natI_len (l : List Nat) : (natI l).length = l.length := by unfold natI; rw [List.length_map]
theorem natv_map (l : List Nat) : l.map natv = (natI l).map i64v := by unfold natI; rw [List.map_map]; rfl
theorem natI_get (l : List Nat) {k : Nat} (h : k < l.length) : (natI l).getD k 0 = ((l.getD k 0 : Nat) : Int) := by
  unfold natI
  simp [List.getD_eq_getElem?_getD, h]

theorem refsOf_append (a b : List Val) : refsOf (a ++ b) = refsOf a ++ refsOf b := by unfold refsOf; rw [List.filter_append, List.map_append]
theorem refsOf_take {l : List Val} {j : Nat} (h : j < l.length) : refsOf (l.take (j + 1)) = refsOf (l.take j) ++ if (l.getD j z0).K = 3 then [(l.getD j z0).r] else [] := by
  have e : l.take (j + 1) = l.take j ++ [l.getD j z0] := by
    rw [List.take_add_one, List.getD_eq_getElem?_getD, List.getElem?_eq_getElem h]
    rfl
  rw [e, refsOf_append]
  congr 1
  unfold refsOf
  by_cases h3 : (l.getD j z0).K = 3
  · rw [if_pos h3]
    generalize l.getD j z0 = v at *
    simp [List.filter_cons, h3]
  · have h2 : ((l.getD j z0).K == 3) = false := by simpa using h3
    rw [if_neg h3]
    simp only [List.filter_cons, h2]
    rfl

theorem take_next {l : List Int} {j : Nat} (h : j < l.length) : l.take (j + 1) = l.take j ++ [l.getD j 0] := by
  rw [List.take_add_one, List.getD_eq_getElem?_getD, List.getElem?_eq_getElem h]
  rfl

/-- Only what has come since has turned. -/
theorem keep_below {w wb wr : World} (h : Keep [] w wb) (k : Below (w.heap.size + 1) wb wr) : Keep [] w wr :=
  ⟨k.os.trans h.os, k.tape.trans h.tape, k.output.trans h.output, Nat.le_trans h.size k.size, fun i hi hm => (k.block i (by omega)).trans (h.block i hi hm)⟩
theorem blk_below {B : Nat} {wb wr : World} {g : Nat} {t : TypeId} {cs : Array Value} (h : Blk wb g t cs) (k : Below B wb wr) (hg : g < B) : Blk wr g t cs := (k.block g hg).trans h
end Go.Flo
namespace Go.Proofs.YtigclopkoolocaaDoor
open Go.RowKit Go.Flo Go.Bit
set_option maxRecDepth 100000

theorem boolparts : (Tryd.prog.info? 4).map (fun i => (i.zero, i.size, i.bytes)) = some (some (.bool false), 1, 1) := by kernel_rfl

theorem mk_bools (n : Nat) (hn : n ≤ 65536) (W : World) : (Instr.makeSlice 72 (.int .i64 (n : Nat)) (.int .i64 (n : Nat))).run Tryd.prog W = .ok (.slice (some ⟨W.heap.size, 0, none⟩) n n) (W.alloc (.cells (madeCells #[Value.bool false] n) 4)) := by
  obtain ⟨i, hi, h1, h2, h3⟩ := info_of boolparts
  have := run_make (P := Tryd.prog) W 72 4 i (.bool false) Tryd.underlying72 hi h1 .i64 .i64 (n : Nat) (n : Nat) (by omega) (by omega) (by rw [h3]; omega) (by omega)
  rw [h2] at this
  simpa [Value.cells] using this

theorem _root_.Go.Flo.Rwd.below {w : World} {r s B n : Nat} {row : List Nat} (h : Rwd w r s B n row) : ∃ A c, Blk w r 74 #[.slice A row.length c, .slice (some ⟨s, 0, none⟩) n n] ∧ IntL w A c (natI row) := by
  obtain ⟨v, h1, h2⟩ := h.blk
  rw [natv_map, ← natI_len] at h2
  obtain ⟨A, c, rfl, h3⟩ := owns_intl h2
  rw [natI_len] at h1
  exact ⟨A, c, h1, h3⟩

theorem _root_.Go.Flo.Rwd.keep {w w' : World} {r s B n : Nat} {row : List Nat} (h : Rwd w r s B n row) (hk : Keep [] w w') : Rwd w' r s B n row := by
  obtain ⟨v, h1, h2⟩ := h.blk
  exact ⟨⟨v, h1.keep hk (by simp), owns_kept h2 hk⟩, h.seen.keep hk (by simp), h.ne, h.rB, h.sB, Nat.le_trans h.Bw hk.size, h.fine⟩

theorem below_of {B : Nat} {a w w' : World} (h : Below B a w) (hk : Keep [] w w') (hB : B ≤ w.heap.size) : Below B a w' := h.trans ⟨hk.os, hk.tape, hk.output, hk.size, fun k hk2 => hk.block k (by omega) (by simp)⟩

/-- Numbers in a row, told. -/
def OrdPost (l : List Int) (w : World) (e : Ending) (w' : World) : Prop := ∃ A c, e = .returned (.slice A l.length c) ∧ IntL w' A c l ∧ Keep [] w w'

set_option maxHeartbeats 4000000 in
theorem rorder_any (w : World) (A0 A1 A2 Al : Option Addr) (c0 c1 c2 cl : Nat) (g : Gr) (l : List Int) (h : GIn w A0 A1 A2 c0 c1 c2 g) (hn : g.n ≤ 4096) (hl : IntL w Al cl l) :
    Calls Tryd.prog 24 #[.agg #[.slice A0 g.nodes.length c0, .slice A1 g.roots.length c1, .slice A2 g.weaks.length c2], .slice Al l.length cl] w (OrdPost (natI (orderG g l)) w) := by
  obtain ⟨n, hnn⟩ : ∃ n, g.n = n := ⟨_, rfl⟩
  have hnl : g.nodes.length = n := hnn
  rw [hnl]
  generalize g.roots.length = nr at *
  generalize g.weaks.length = nw at *
  have hlc := hl.nc
  have hlm := hl.cap
  have HI := Lib.hid h.nodes
  have HL := Lib.hid hl
  obtain ⟨q, hq⟩ : ∃ q, l.length = q := ⟨_, rfl⟩
  rw [hq] at hlc ⊢
  have HQ := Lib.hid (And.intro hq (And.intro hnn hnl))
  have hmk := mk_bools n (by omega) (w.alloc (.cells #[.slice A0 n c0, .slice A1 nr c1, .slice A2 nw c2] 25))
  rw [show (w.alloc (.cells #[.slice A0 n c0, .slice A1 nr c1, .slice A2 nw c2] 25)).heap.size = w.heap.size + 1 by simp] at hmk
  rw [hnn] at hn
  have hnc := h.nodes.nc
  have hncm := h.nodes.cap
  rw [hnl] at hnc
  clear h hl hq hnn hnl
  go_enter Tryd.func24, Tryd.ntmps24
  have ka1 : Keep [] w (w.alloc (.cells #[.slice A0 n c0, .slice A1 nr c1, .slice A2 nw c2] 25)) := Keep.alloc _ _
  obtain ⟨w1, hw1⟩ : ∃ w1, w1 = w.alloc (.cells #[.slice A0 n c0, .slice A1 nr c1, .slice A2 nw c2] 25) := ⟨_, rfl⟩
  have hb1 := Blk.new w 25 #[.slice A0 n c0, .slice A1 nr c1, .slice A2 nw c2]
  rw [← hw1] at ka1 hb1 hmk
  have hz1 : w1.heap.size = w.heap.size + 1 := by rw [hw1]; simp
  have hr2 := Row.made w1 4 (.bool false) rfl n (by unfold maxLen; omega)
  rw [Nat.mul_one, show (Value.bool false).cells = #[Value.bool false] from rfl] at hr2
  have ka2 : Keep [] w1 (w1.alloc (.cells (madeCells #[Value.bool false] n) 4)) := Keep.alloc _ _
  obtain ⟨w2, hw2⟩ : ∃ w2, w2 = w1.alloc (.cells (madeCells #[Value.bool false] n) 4) := ⟨_, rfl⟩
  have hz2 : w2.heap.size = w.heap.size + 2 := by rw [hw2]; simp [hz1]
  rw [← hw2] at ka2 hr2 hmk
  rw [hz1] at hr2
  have hb3 := Blk.new w2 74 #[.slice none 0 0, .slice (some ⟨w.heap.size + 1, 0, none⟩) n n]
  have ka3 : Keep [] w2 (w2.alloc (.cells #[.slice none 0 0, .slice (some ⟨w.heap.size + 1, 0, none⟩) n n] 74)) := Keep.alloc _ _
  obtain ⟨w3, hw3⟩ : ∃ w3, w3 = w2.alloc (.cells #[.slice none 0 0, .slice (some ⟨w.heap.size + 1, 0, none⟩) n n] 74) := ⟨_, rfl⟩
  have hz3 : w3.heap.size = w.heap.size + 3 := by rw [hw3]; simp [hz2]
  rw [← hw3] at hb3 ka3
  have hbox := (hb1.keep ka2 (by simp)).keep ka3 (by simp)
  have hrw : Rwd w3 w2.heap.size (w.heap.size + 1) (w2.heap.size + 1) n [] := ⟨⟨.slice none 0 0, hb3, ⟨rfl, Or.inl ⟨rfl, rfl⟩⟩⟩, (hr2.keep ka3 (by simp)).congr (fun i hi => by simp), by omega, by omega, by omega, by omega, Fine.nil n⟩
  have HW := Lib.hid (And.intro hrw (And.intro hbox ((ka1.trans ka2).trans ka3)))
  have HWE := Lib.hid hw3
  have hrs : w.heap.size + 1 < w2.heap.size := by omega
  clear hrw hbox ka1 ka2 ka3 hb1 hb3 hr2 hz1 hz2 hz3 hw3 hw2
  subst hw1
  go_wp2
  go_loopw [19] (fun x wr => ∃ j : Nat, j ≤ q ∧ x = .int .i64 j ∧ Rwd wr w2.heap.size (w.heap.size + 1) (w2.heap.size + 1) n (puts n [] (l.take j)) ∧ Below (w.heap.size + 1) w3 wr) (fun x _ => q - (RowKit.intOf x).toNat)
  case atStart =>
    refine ⟨0, by omega, rfl, ?_, ?_⟩
    · rw [← HWE.out]; exact HW.out.1
    · rw [← HWE.out]; exact Below.refl _ _
  case round =>
  obtain ⟨j, hj, rfl, hr, hbl⟩ := hrel
  by_cases hlt : j < q
  case pos =>
    obtain ⟨bl, ol, rfl, hbl2, hcl⟩ := (HL.out.keep (keep_below HW.out.2.2 hbl)).cells (by rw [HQ.out.1]; omega)
    have cj := hcl j (by rw [HQ.out.1]; exact hlt)
    have hput := put_any wr w2.heap.size (w.heap.size + 1) (w2.heap.size + 1) n (puts n [] (l.take j)) (l.getD j 0) hr (by omega)
    have HT := Lib.hid (show puts n [] (l.take (j + 1)) = put n (puts n [] (l.take j)) (l.getD j 0) by rw [take_next (by rw [HQ.out.1]; exact hlt), puts_append]; rfl)
    rw [← HT.out] at hput
    have HBL := Lib.hid hbl
    generalize l.getD j 0 = y at *
    clear hcl hr hbl
    go_wp2_with fail
    (with_reducible refine hput.mono ?_)
    rintro e w4 ⟨rfl, hr4, hb4⟩
    have HR4 := Lib.hid (And.intro hr4 (HBL.out.trans (hb4 _ (by omega) (by omega) (by omega))))
    clear hput hr4 hb4
    go_wp2
    go_roundw
    case rel => exact ⟨j + 1, by omega, by go_num, HR4.out.1, HR4.out.2⟩
    case measure => simp [RowKit.intOf]; omega
  obtain rfl : j = q := by omega
  rw [show l.take j = l by rw [← HQ.out.1]; exact List.take_length] at hr
  have HR := Lib.hid (And.intro hr hbl)
  clear hr hbl
  go_wp2
  go_loopw [8] (fun x wr => ∃ (k f : Nat) (row : List Nat), f + k = n + 1 ∧ x = .int .i64 k ∧ k ≤ row.length ∧ walkR g f k row = orderG g l ∧ Rwd wr w2.heap.size (w.heap.size + 1) (w2.heap.size + 1) n row ∧ Below (w.heap.size + 1) w3 wr) (fun x _ => n + 1 - (RowKit.intOf x).toNat)
  case atStart => exact ⟨0, n + 1, _, by omega, rfl, by omega, by unfold orderG; rw [HQ.out.2.1], HR.out.1, HR.out.2⟩
  case round =>
  obtain ⟨k, f, row, hfk, rfl, hk, hwk, hr, hbl⟩ := hrel
  obtain ⟨A, c, hbr, hir⟩ := hr.below
  have cr0 := (hbr.cell 0).trans (show _ = some (Value.slice A row.length c) from rfl)
  by_cases hkl : k < row.length
  case neg =>
    rw [walkR_done g f k row (by omega)] at hwk
    have hlt2 : ¬ (k : Int) < row.length := by omega
    have HE := Lib.hid (And.intro hwk (And.intro hir (keep_below HW.out.2.2 hbl)))
    clear hwk hir hbl hr hbr
    go_wp2
    go_ret
    refine ⟨A, c, ?_, ?_, HE.out.2.2⟩
    · rw [← HE.out.1, natI_len]
      rfl
    · rw [← HE.out.1]; exact HE.out.2.1
  have hKw := keep_below HW.out.2.2 hbl
  obtain ⟨bR, oR, rfl, hbR, hcR⟩ := hir.cells (by rw [natI_len]; omega)
  have ck := hcR k (by rw [natI_len]; exact hkl)
  rw [natI_get row hkl] at ck
  have hmem : row.getD k 0 ∈ row := by rw [List.getD_eq_getElem?_getD, List.getElem?_eq_getElem hkl]; exact List.getElem_mem hkl
  have hin := hr.fine.2 _ hmem
  have hst := fun f' => walkR_step g f' k row hkl
  obtain ⟨f', rfl⟩ : ∃ f', f = f' + 1 := by
    have := hr.fine.len
    exact ⟨f - 1, by omega⟩
  rw [hst f', HQ.out.2.1] at hwk
  obtain ⟨i, hi⟩ : ∃ i, row.getD k 0 = i := ⟨_, rfl⟩
  rw [hi] at ck hin hwk
  obtain ⟨bN, oN, rfl, hbN, hcN⟩ := HI.out.cells (by rw [HQ.out.2.2]; omega)
  obtain ⟨AF, cF, e0, e1, hvF⟩ := hcN i (by rw [HQ.out.2.2]; exact hin)
  have hfs : (g.nodes.getD i nod0) = g.at i := rfl
  rw [hfs] at e1 hvF
  have cN := (hKw.cell (p := ⟨bN, _, none⟩) hbN (by simp)).trans e1
  have cb := ((blk_below HW.out.2.1 hbl (by omega)).cell 0).trans (show _ = some (Value.slice (some ⟨bN, oN, none⟩) n c0) from rfl)
  obtain ⟨fs, hfse⟩ : ∃ fs, (g.at i).fs = fs := ⟨_, rfl⟩
  rw [hfse] at cN hvF hwk
  have hfc := hvF.nc
  have hfm := hvF.cap
  obtain ⟨mF, hmF⟩ : ∃ mF, fs.length = mF := ⟨_, rfl⟩
  rw [hmF] at cN hfc
  have hk1 : (k : Int) < row.length := by omega
  have hi1 : (i : Int) < n := by omega
  have hrl := hr.fine.len
  have HV := Lib.hid (And.intro hvF hmF)
  have HR2 := Lib.hid (And.intro hr hbl)
  have HWK := Lib.hid hwk
  have HP := Lib.hid (puts_prefix n (refsOf fs) row)
  clear hir hcR hmem hst hi hcN e0 e1 hfs hfse hvF hwk hr hbl hKw hmF
  go_wp2_with fail
  go_quiet (fail)
  go_wp2
  go_loopw [49] (fun x wq => ∃ j : Nat, j ≤ mF ∧ x = .int .i64 j ∧ Rwd wq w2.heap.size (w.heap.size + 1) (w2.heap.size + 1) n (puts n row (refsOf (fs.take j))) ∧ Below (w.heap.size + 1) w3 wq) (fun x _ => mF - (RowKit.intOf x).toNat)
  case atStart => exact ⟨0, by omega, rfl, HR2.out.1.keep (Keep.dr (Dr.drewN _ _)), below_of HR2.out.2 (Keep.dr (Dr.drewN _ _)) (by have := HR2.out.1.Bw; omega)⟩
  case round =>
  obtain ⟨j, hj, rfl, hr3, hb3⟩ := hrel
  by_cases hjt : j < mF
  case neg =>
    obtain rfl : j = mF := by omega
    rw [show fs.take j = fs by rw [← HV.out.2]; exact List.take_length] at hr3
    have HR3 := Lib.hid (And.intro hr3 hb3)
    have hle := HP.out.length_le
    clear hr3 hb3
    go_wp2
    go_roundw
    case rel => exact ⟨k + 1, f', _, by omega, by go_num, by omega, HWK.out, HR3.out.1, HR3.out.2⟩
    case measure => simp [RowKit.intOf]; omega
  have hKq := keep_below HW.out.2.2 hb3
  obtain ⟨bF, oF, rfl, hbF, hcF⟩ := HV.out.1.cells (by rw [HV.out.2]; omega)
  obtain ⟨q0, q1, q2, q3, q4⟩ := hcF j (by rw [HV.out.2]; exact hjt)
  have d0 := (hKq.cell (p := ⟨bF, _, none⟩) hbF (by simp)).trans q0
  have d1 := (hKq.cell (p := ⟨bF, _, none⟩) hbF (by simp)).trans q1
  have d2 := (hKq.cell (p := ⟨bF, _, none⟩) hbF (by simp)).trans q2
  have d3 := (hKq.cell (p := ⟨bF, _, none⟩) hbF (by simp)).trans q3
  have d4 := (hKq.cell (p := ⟨bF, _, none⟩) hbF (by simp)).trans q4
  have hrt := refsOf_take (l := fs) (j := j) (by rw [HV.out.2]; exact hjt)
  obtain ⟨V, hV⟩ : ∃ V, fs.getD j z0 = V := ⟨_, rfl⟩
  rw [hV] at d0 d1 d2 d3 d4 hrt
  obtain ⟨x0, x1, x2, x3, x4⟩ := V
  dsimp only at d0 d1 d2 d3 d4 hrt
  have ka : Keep [] wr (wr.alloc (.cells #[.int .i64 x0, .int .i64 x1, .int .u64 x2, .int .u64 x3, .int .i64 x4] 36)) := Keep.alloc _ _
  have hr4 := hr3.keep ka
  have hb4 := below_of hb3 ka (by have := hr3.Bw; omega)
  clear hKq hcF q0 q1 q2 q3 q4 hV hr3 hb3 ka
  by_cases h3 : x0 = 3
  · subst h3
    rw [if_pos rfl] at hrt
    have hput := put_any _ _ _ _ _ _ x4 hr4 (by omega)
    have HT := Lib.hid (show puts n row (refsOf (fs.take (j + 1))) = put n (puts n row (refsOf (fs.take j))) x4 by rw [hrt, puts_append]; rfl)
    rw [← HT.out] at hput
    have HB4 := Lib.hid hb4
    clear hrt hr4 hb4
    go_wp2_with fail
    (with_reducible refine hput.mono ?_)
    rintro e w5 ⟨rfl, hr5, hb5⟩
    have HR5 := Lib.hid (And.intro hr5 (HB4.out.trans (hb5 _ (by omega) (by omega) (by omega))))
    clear hput hr5 hb5 d0 d1 d2 d3 d4
    go_wp2
    go_roundw
    case rel => exact ⟨j + 1, by omega, by go_num, HR5.out.1, HR5.out.2⟩
    case measure => simp [RowKit.intOf]; omega
  · rw [if_neg h3, List.append_nil] at hrt
    have h3' : (x0 == 3) = false := by simpa using h3
    have HR5 := Lib.hid (And.intro hr4 (And.intro hb4 hrt))
    clear hrt hr4 hb4
    go_wp2
    go_roundw
    case rel => exact ⟨j + 1, by omega, by go_num, by rw [HR5.out.2.2]; exact HR5.out.1, HR5.out.2.1⟩
    case measure => simp [RowKit.intOf]; omega
end Go.Proofs.YtigclopkoolocaaDoor
