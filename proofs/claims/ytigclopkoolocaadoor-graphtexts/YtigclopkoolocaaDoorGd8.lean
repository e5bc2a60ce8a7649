/-
  The program's package graph: Trim. No conditions but what is in memory.
-/
import Derived.Test.YtigclopkoolocaaDoorGd7
import Derived.Deep.RegionHeld3
namespace Go.Flo
open Go.RowKit Go.Bit

/-- The cells of nodes. -/
def ndC (K : Nat → Int) (vs : Nat → Value) (i : Nat) : Value := if i % 2 = 0 then .int .i64 (K (i / 2)) else vs (i / 2)
theorem ndC_0 (K : Nat → Int) (vs : Nat → Value) (j : Nat) : ndC K vs (j * 2) = .int .i64 (K j) := by unfold ndC; rw [show j * 2 % 2 = 0 by omega, show j * 2 / 2 = j by omega]; rfl
theorem ndC_1 (K : Nat → Int) (vs : Nat → Value) (j : Nat) : ndC K vs (j * 2 + 1) = vs j := by unfold ndC; rw [show (j * 2 + 1) % 2 = 1 by omega, show (j * 2 + 1) / 2 = j by omega]; rfl
def nz12 : Array Value := #[.int .i64 0, .slice none 0 0]
theorem nrow12 {W : World} {t : TypeId} {g n : Nat} (hn : n ≤ 65536) (h : Blk W g t (madeCells nz12 (n * 2))) : Row W t g (n * 2) (n * 2) (ndC (fun _ => 0) (fun _ => .slice none 0 0)) := by
  refine ⟨_, h, by rw [size_madeCells], Nat.le_refl _, by unfold maxLen; omega, fun i hi => ?_⟩
  have h5 : i % 2 < 2 := Nat.mod_lt _ (by omega)
  have e : (madeCells nz12 (n * 2))[i]? = some (nz12[i % 2]!) := by simp [madeCells, hi, show nz12.size = 2 from rfl]
  rw [e]
  unfold ndC
  match hq : i % 2, h5 with
  | 0, _ => rfl
  | 1, _ => rfl

/-- Nodes told so far: each one's fields in a row of its own. -/
def NodRow (w : World) (tn tv : TypeId) (gN q j : Nat) (L : List Nod) : Prop :=
  ∃ bs : Nat → Nat, Row w tn gN (q * 2) (q * 2) (ndC (fun i => if i < j then (L.getD i nod0).K else 0) (fun i => if i < j then .slice (some ⟨bs i, 0, none⟩) (L.getD i nod0).fs.length (L.getD i nod0).fs.length else .slice none 0 0)) ∧
    ∀ i, i < j → gN < bs i ∧ Row w tv (bs i) ((L.getD i nod0).fs.length * 5) ((L.getD i nod0).fs.length * 5) (valC (fun k => (L.getD i nod0).fs.getD k z0))

theorem NodRow.keep {w w' : World} {tn tv : TypeId} {gN q j : Nat} {L : List Nod} (h : NodRow w tn tv gN q j L) (hk : Keep [] w w') : NodRow w' tn tv gN q j L := by
  obtain ⟨bs, h1, h2⟩ := h
  exact ⟨bs, h1.keep hk (by simp), fun i hi => ⟨(h2 i hi).1, (h2 i hi).2.keep hk (by simp)⟩⟩

theorem NodRow.keepO {w w' : World} {tn tv : TypeId} {gN q j : Nat} {L : List Nod} {own : List Nat} (h : NodRow w tn tv gN q j L) (hk : Keep own w w') (ho : ∀ x ∈ own, x < gN) : NodRow w' tn tv gN q j L := by
  obtain ⟨bs, h1, h2⟩ := h
  exact ⟨bs, h1.keep hk (fun hm => by have := ho gN hm; omega), fun i hi => ⟨(h2 i hi).1, (h2 i hi).2.keep hk (fun hm => by have := ho _ hm; have := (h2 i hi).1; omega)⟩⟩

theorem row_intl {w : World} {t : TypeId} {b n : Nat} {l : List Int} (hl : l.length = n) (h : Row w t b n n (fun i => .int .i64 (l.getD i 0))) : IntL w (some ⟨b, 0, none⟩) n l := by
  subst hl
  have hm := h.cap_max
  unfold maxLen at hm
  exact ⟨Nat.le_refl _, fun e => (by cases e), by omega, fun _ => ⟨b, 0, rfl, h.lt, fun j hj => by rw [Nat.zero_add]; exact h.cell hj⟩⟩

theorem NodRow.done {w : World} {tn tv : TypeId} {gN q : Nat} {L : List Nod} (hL : L.length = q) (h : NodRow w tn tv gN q q L) : NodL w (some ⟨gN, 0, none⟩) q L := by
  obtain ⟨bs, h1, h2⟩ := h
  have hm := h1.cap_max
  unfold maxLen at hm
  refine ⟨by omega, by omega, fun _ => ⟨gN, 0, rfl, h1.lt, fun i hi => ?_⟩⟩
  rw [hL] at hi
  refine ⟨some ⟨bs i, 0, none⟩, (L.getD i nod0).fs.length, ?_, ?_, row_vals (h2 i hi).2⟩
  · rw [Nat.zero_add, h1.cell (by omega), ndC_0, if_pos hi]
  · rw [Nat.zero_add, h1.cell (by omega), ndC_1, if_pos hi]

/-- One node more. -/
theorem NodRow.set {w : World} {tn tv : TypeId} {gN q j b : Nat} {L : List Nod} {x : Nod} (hj : j < q) (hx : L.getD j nod0 = x) (h : NodRow w tn tv gN q j L) (hb : gN < b) (hr : Row w tv b (x.fs.length * 5) (x.fs.length * 5) (valC (fun k => x.fs.getD k z0))) :
    NodRow ((w.setCell ⟨gN, j * 2, none⟩ (.int .i64 x.K)).setCell ⟨gN, j * 2 + 1, none⟩ (.slice (some ⟨b, 0, none⟩) x.fs.length x.fs.length)) tn tv gN q (j + 1) L := by
  obtain ⟨bs, h1, h2⟩ := h
  have hk : Keep [gN] w ((w.setCell ⟨gN, j * 2, none⟩ (.int .i64 x.K)).setCell ⟨gN, j * 2 + 1, none⟩ (.slice (some ⟨b, 0, none⟩) x.fs.length x.fs.length)) := (Keep.setCell _ _ (by simp) _).trans (Keep.setCell _ _ (by simp) _)
  refine ⟨fun i => if i = j then b else bs i, ((h1.set_ (j * 2) _).set_ (j * 2 + 1) _).congr (fun i hi => ?_), fun i hi => ?_⟩
  · by_cases e1 : i = j * 2 + 1
    · subst e1
      rw [if_pos rfl, ndC_1, if_pos (by omega)]
      dsimp only
      rw [if_pos rfl, hx]
    rw [if_neg e1]
    by_cases e0 : i = j * 2
    · subst e0
      rw [if_pos rfl, ndC_0, if_pos (by omega), hx]
    rw [if_neg e0]
    have hne : i / 2 ≠ j := by omega
    unfold ndC
    dsimp only
    by_cases h3 : i / 2 < j
    · rw [if_pos h3, if_pos h3, if_pos (show i / 2 < j + 1 by omega), if_pos (show i / 2 < j + 1 by omega), if_neg hne]
    · rw [if_neg h3, if_neg h3, if_neg (show ¬ i / 2 < j + 1 by omega), if_neg (show ¬ i / 2 < j + 1 by omega)]
  · dsimp only
    by_cases e : i = j
    · subst e
      rw [if_pos rfl, hx]
      exact ⟨hb, hr.keep hk (by simp; omega)⟩
    · rw [if_neg e]
      have := h2 i (by omega)
      exact ⟨this.1, this.2.keep hk (by simp; omega)⟩
end Go.Flo
namespace Go.Proofs.YtigclopkoolocaaDoor
open Go.RowKit Go.Flo Go.Bit
set_option maxRecDepth 100000

theorem mk_nods (n : Nat) (hn : n ≤ 65536) (W : World) : (Instr.makeSlice 22 (.int .i64 (n : Nat)) (.int .i64 (n : Nat))).run Tryd.prog W = .ok (.slice (some ⟨W.heap.size, 0, none⟩) n n) (W.alloc (.cells (madeCells nz12 (n * 2)) 33)) := by
  obtain ⟨i, hi, h1, h2, h3⟩ := info_of nodparts
  have := run_make (P := Tryd.prog) W 22 33 i (.agg nz12) Tryd.underlying22 hi h1 .i64 .i64 (n : Nat) (n : Nat) (by omega) (by omega) (by rw [h3]; omega) (by omega)
  rw [h2] at this
  simpa [Value.cells] using this

set_option maxHeartbeats 20000000 in
theorem trim_any (w : World) (A0 A1 A2 : Option Addr) (c0 c1 c2 : Nat) (g : Gr) (h : GIn w A0 A1 A2 c0 c1 c2 g) (hsl : Slim g) :
    Calls Tryd.prog 9 #[.agg #[.slice A0 g.nodes.length c0, .slice A1 g.roots.length c1, .slice A2 g.weaks.length c2]] w (GrPost (trimE g) w) := by
  have ka : Keep [] w (w.alloc (.cells #[.slice A0 g.nodes.length c0, .slice A1 g.roots.length c1, .slice A2 g.weaks.length c2] 25)) := Keep.alloc _ _
  have hb := Blk.new w 25 #[.slice A0 g.nodes.length c0, .slice A1 g.roots.length c1, .slice A2 g.weaks.length c2]
  obtain ⟨wa, hwa⟩ : ∃ wa, wa = w.alloc (.cells #[.slice A0 g.nodes.length c0, .slice A1 g.roots.length c1, .slice A2 g.weaks.length c2] 25) := ⟨_, rfl⟩
  rw [← hwa] at ka hb
  have hza : wa.heap.size = w.heap.size + 1 := by rw [hwa]; simp
  have kb : Keep [] wa (wa.alloc (.cells #[.slice none 0 0, .slice none 0 0, .slice none 0 0] 25)) := Keep.alloc _ _
  have hbo := Blk.new wa 25 #[.slice none 0 0, .slice none 0 0, .slice none 0 0]
  rw [hza] at hbo
  obtain ⟨w1, hw1⟩ : ∃ w1, w1 = wa.alloc (.cells #[.slice none 0 0, .slice none 0 0, .slice none 0 0] 25) := ⟨_, rfl⟩
  have hb := hb.keep kb (by simp)
  rw [← hw1] at kb hb hbo
  rw [hwa] at hw1
  have hz1 : w.heap.size + 1 < w1.heap.size := hbo.lt
  have hmay := mayg_any w1 A0 A1 A2 c0 c1 c2 g (h.keep (ka.trans kb))
  have HB := Lib.hid (And.intro hb hbo)
  have HKA := Lib.hid (ka.trans kb)
  clear hb hbo ka kb hza hwa
  by_cases hM : MayG g
  case neg =>
    rw [show trimE g = ⟨[], [], []⟩ from if_neg hM]
    rw [decide_eq_false hM] at hmay
    clear h hM
    go_enter Tryd.func9, Tryd.ntmps9
    go_wp2_with fail
    rw [← hw1]
    (with_reducible refine hmay.mono ?_)
    rintro e w2 ⟨rfl, k2⟩
    clear hw1
    have hbo2 := HB.out.2.keep k2 (by simp)
    have z0 := (hbo2.cell 0).trans (show _ = some (Value.slice none 0 0) from rfl)
    have z1 := (hbo2.cell 1).trans (show _ = some (Value.slice none 0 0) from rfl)
    have z2 := (hbo2.cell 2).trans (show _ = some (Value.slice none 0 0) from rfl)
    have f0 := hbo2.frozen 0
    have f1 := hbo2.frozen 1
    have f2 := hbo2.frozen 2
    have kg : (Tryd.prog.info? 25).map (·.size) = some (#[.slice none 0 0, .slice none 0 0, .slice none 0 0] : Array Value).size := by kernel_rfl
    go_wp2
    (try simp only [Exit.inBlock, Exit.then])
    have hb5 := Blk.set3 hbo2 (.slice none 0 0) (.slice none 0 0) (.slice none 0 0)
    refine bodyPost_ret (v := .agg #[.slice none 0 0, .slice none 0 0, .slice none 0 0]) ?_ rfl ?_
    · exact results_cell_row rfl _ _ (w.heap.size + 1) 25 #[.slice none 0 0, .slice none 0 0, .slice none 0 0] (0, 0) _ rfl hb5 Tryd.underlying25 rfl kg
    refine ⟨none, none, none, 0, 0, 0, rfl, ⟨NodL.nil _, IntL.nil _, IntL.nil _⟩, (HKA.out.trans k2).since (own := [w.heap.size + 1]) ?_ (by simp)⟩
    exact ((Keep.setCell _ _ (by simp) _).trans (Keep.setCell _ _ (by simp) _)).trans (Keep.setCell _ _ (by simp) _)
  rw [decide_eq_true hM] at hmay
  have h4 := hM.1
  have hord := fun X (hk : Keep [] w X) => walk_any X A0 A1 A2 A1 c0 c1 c2 c1 g g.roots (h.keep hk) hM (h.roots.keep hk)
  rw [show trimE g = trimG g from if_pos hM]
  have hf := orderG_fine g g.roots
  obtain ⟨R, hR⟩ : ∃ R, orderG g g.roots = R := ⟨_, rfl⟩
  have HT := Lib.hid (show trimG g = trimR g R by rw [← hR]; rfl)
  rw [hR] at hord hf
  unfold WalkPost at hord
  have hnn : g.nodes.length = g.n := rfl
  rw [hnn] at hmay hord HB hw1 ⊢
  have HG := Lib.hid (And.intro h hM)
  have HSL := Lib.hid hsl
  obtain ⟨n, hn⟩ : ∃ n, g.n = n := ⟨_, rfl⟩
  obtain ⟨n1, hn1⟩ : ∃ n1, g.roots.length = n1 := ⟨_, rfl⟩
  obtain ⟨n2, hn2⟩ : ∃ n2, g.weaks.length = n2 := ⟨_, rfl⟩
  have HN := Lib.hid (And.intro hn (And.intro hn1 hn2))
  rw [hn, hn1, hn2] at hord HB hw1 hmay ⊢
  rw [hn] at h4 hf
  have HO := Lib.hid hord
  have HF := Lib.hid hf
  have hrl := hf.len
  have hnc := h.nodes.nc
  have hncm := h.nodes.cap
  rw [hnn, hn] at hnc
  clear h hM hsl hord hf hR hnn hn hn1 hn2
  go_enter Tryd.func9, Tryd.ntmps9
  go_wp2_with fail
  rw [← hw1]
  (with_reducible refine hmay.mono ?_)
  rintro e w2 ⟨rfl, k2⟩
  clear hw1
  have hbo2 := HB.out.2.keep k2 (by simp)
  have hb2 := HB.out.1.keep k2 (by simp)
  have y0 := (hb2.cell 0).trans (show _ = some (Value.slice A0 n c0) from rfl)
  have y1 := (hb2.cell 1).trans (show _ = some (Value.slice A1 n1 c1) from rfl)
  have y2 := (hb2.cell 2).trans (show _ = some (Value.slice A2 n2 c2) from rfl)
  have hord := HO.out w2 (HKA.out.trans k2)
  have HK2 := Lib.hid (And.intro hb2 (And.intro (HKA.out.trans k2) (And.intro hbo2 k2)))
  clear hmay k2 hb2 hbo2
  go_wp2_with fail
  (with_reducible refine hord.mono ?_)
  rintro e w3 ⟨A, c, s, rfl, hil, hpl, k3⟩
  have hrc := hil.nc
  have hrm := hil.cap
  rw [natI_len] at hrc
  have hs3 := (HK2.out.2.2.2.trans k3).size
  have k4 : Keep [] w3 (w3.alloc (.cells #[.slice A R.length c, .slice (some ⟨s, 0, none⟩) n n] 42)) := Keep.alloc _ _
  have hbw := Blk.new w3 42 #[.slice A R.length c, .slice (some ⟨s, 0, none⟩) n n]
  obtain ⟨w4, hw4⟩ : ∃ w4, w4 = w3.alloc (.cells #[.slice A R.length c, .slice (some ⟨s, 0, none⟩) n n] 42) := ⟨_, rfl⟩
  rw [← hw4] at k4 hbw
  obtain ⟨q, hq⟩ : ∃ q, R.length = q := ⟨_, rfl⟩
  rw [hq] at hw4 hbw hrl hrc ⊢
  have HQ := Lib.hid hq
  have hmk := mk_nods q (by omega) w4
  have hrow := nrow12 (n := q) (by omega) (Blk.new w4 33 (madeCells nz12 (q * 2)))
  have k5 : Keep [] w4 (w4.alloc (.cells (madeCells nz12 (q * 2)) 33)) := Keep.alloc _ _
  obtain ⟨w5, hw5⟩ : ∃ w5, w5 = w4.alloc (.cells (madeCells nz12 (q * 2)) 33) := ⟨_, rfl⟩
  rw [← hw5] at k5 hrow hmk
  have v0 := (hbw.cell 0).trans (show _ = some (Value.slice A q c) from rfl)
  have v5 := ((hbw.keep k5 (by simp)).cell 0).trans (show _ = some (Value.slice A q c) from rfl)
  have hrs : w4.heap.size < w5.heap.size := hrow.lt
  have hs34 : w3.heap.size < w4.heap.size := hbw.lt
  have hsx : s < w3.heap.size := hpl.lt
  have k25 := ((HK2.out.2.1.trans k3).trans k4).trans k5
  have H5 := Lib.hid (And.intro (hil.keep (k4.trans k5)) (And.intro hrow (And.intro k25 (And.intro (hbw.keep k5 (by simp)) (And.intro (hpl.keep (k4.trans k5) (by simp)) (And.intro (HK2.out.1.keep ((k3.trans k4).trans k5) (by simp)) (HK2.out.2.2.1.keep ((k3.trans k4).trans k5) (by simp))))))))
  have H45 := Lib.hid k5
  have H4L := Lib.hid (hil.keep k4)
  clear hord y0 y1 y2 hil hpl k3 k4 k5 k25 hbw hrow hw5 hq
  go_upto_region 4 with fail
  rw [← hw4]
  clear hw4
  go_wp2
  clear v0 v5
  obtain ⟨gN, hgN⟩ : ∃ gN, w4.heap.size = gN := ⟨_, rfl⟩
  obtain ⟨r, hr⟩ : ∃ r, w3.heap.size = r := ⟨_, rfl⟩
  rw [hgN] at H5 hrs hs34 ⊢
  rw [hr] at H5 hs3 hs34 hsx ⊢
  go_loopw [22] (fun x wr => ∃ j : Nat, j ≤ q ∧ x = .int .i64 j ∧ NodRow wr 33 36 gN q j (R.map (nodeR g R)) ∧ Keep [gN] w5 wr) (fun x _ => q - (RowKit.intOf x).toNat)
  case atStart => exact ⟨0, by omega, rfl, ⟨fun _ => 0, H5.out.2.1.congr (fun i _ => by unfold ndC; simp), fun i hi => by omega⟩, Keep.refl _ _⟩
  case round =>
  obtain ⟨j, hj, rfl, hrow, hK⟩ := hrel
  have hKw := H5.out.2.2.1.since hK (by simp; omega)
  by_cases hlt : j < q
  case neg =>
    obtain rfl : j = q := by omega
    have hnl := hrow
    have hbg := H5.out.2.2.2.2.2.1.keep hK (by simp; omega)
    have hre := H5.out.2.2.2.2.2.2.keep hK (by simp; omega)
    have hwd := H5.out.2.2.2.1.keep hK (by simp; omega)
    have hpl := H5.out.2.2.2.2.1.keep hK (by simp; omega)
    have hsl := HSL.out
    have hrt := HG.out.1.roots.keep hKw
    have hwk := HG.out.1.weaks.keep hKw
    have p1 := fun W (hk : Keep [] wr W) => places_any W r s n c1 R _ A1 g.roots (hwd.keep hk (by simp)) (hpl.keep hk (by simp)) (hrt.keep hk) hsl.1 (fun x hx => by have := HG.out.2.2.1 x hx; rwa [HN.out.1] at this)
    have p2 := fun W (hk : Keep [] wr W) => places_any W r s n c2 R _ A2 g.weaks (hwd.keep hk (by simp)) (hpl.keep hk (by simp)) (hwk.keep hk) hsl.2.1 (fun x hx => by have := HG.out.2.2.2.1 x hx; rwa [HN.out.1] at this)
    rw [HN.out.2.1] at p1
    rw [HN.out.2.2] at p2
    unfold PlacesPost at p1 p2
    rw [HN.out.2.1] at p1
    rw [HN.out.2.2] at p2
    have P1 := Lib.hid p1
    have P2 := Lib.hid p2
    have hf := fun W (hk : Keep [] wr W) => And.intro (((hbg.keep hk (by simp)).cell 1).trans (show _ = some (Value.slice A1 n1 c1) from rfl)) (And.intro (((hbg.keep hk (by simp)).cell 2).trans (show _ = some (Value.slice A2 n2 c2) from rfl))
      (And.intro (((hre.keep hk (by simp)).cell 0).trans (show _ = some (Value.slice none 0 0) from rfl)) (And.intro (((hre.keep hk (by simp)).cell 1).trans (show _ = some (Value.slice none 0 0) from rfl)) (And.intro (((hre.keep hk (by simp)).cell 2).trans (show _ = some (Value.slice none 0 0) from rfl))
      (And.intro ((hre.keep hk (by simp)).frozen 0) (And.intro ((hre.keep hk (by simp)).frozen 1) ((hre.keep hk (by simp)).frozen 2)))))))
    have HFF := Lib.hid hf
    have hrl2 := hre.lt
    have HE := Lib.hid (And.intro hnl (And.intro hKw hre))
    obtain ⟨f1, f2, z0, z1, z2, e0, e1, e2⟩ := hf wr.drew (Keep.drew _)
    clear hnl hbg hre hwd hpl hsl hrt hwk p1 p2 hf hrow hK hKw
    go_wp2_with fail
    go_region_with (first
      | (go_at_call 22; with_reducible refine (P1.out _ (Keep.drew _)).mono ?_; rintro e w6 ⟨b1, rfl, hb1, hr1, k6⟩; have k6 := (Keep.drew (own := []) wr).trans k6; obtain ⟨f1, f2, z0, z1, z2, e0, e1, e2⟩ := HFF.out w6 k6)
      | (go_at_call 22; with_reducible refine (P2.out _ k6).mono ?_; rintro e w7 ⟨b2, rfl, hb2, hr2, k7⟩; have hr1 := hr1.keep k7 (by simp); have k7 := k6.trans k7; obtain ⟨f1, f2, z0, z1, z2, e0, e1, e2⟩ := HFF.out w7 k7))
    all_goals
      have hre7 := HE.out.2.2.keep k7 (by simp)
      have hb5 := Blk.set3 hre7 (.slice (some ⟨gN, 0, none⟩) j j) (.slice (some ⟨b1, 0, none⟩) n1 n1) (.slice (some ⟨b2, 0, none⟩) n2 n2)
      have kg : (Tryd.prog.info? 25).map (·.size) = some (#[.slice (some ⟨gN, 0, none⟩) j j, .slice (some ⟨b1, 0, none⟩) n1 n1, .slice (some ⟨b2, 0, none⟩) n2 n2] : Array Value).size := by kernel_rfl
      go_wp2_with fail
      (try simp only [Exit.inBlock, Exit.then])
      refine bodyPost_ret (v := .agg #[.slice (some ⟨gN, 0, none⟩) j j, .slice (some ⟨b1, 0, none⟩) n1 n1, .slice (some ⟨b2, 0, none⟩) n2 n2]) ?_ rfl ?_
      · exact results_cell_row rfl _ _ (w.heap.size + 1) 25 #[.slice (some ⟨gN, 0, none⟩) j j, .slice (some ⟨b1, 0, none⟩) n1 n1, .slice (some ⟨b2, 0, none⟩) n2 n2] (0, 0) _ rfl hb5 Tryd.underlying25 rfl kg
      have hk8 : Keep [w.heap.size + 1] w7 (((w7.setCell ⟨w.heap.size + 1, 0, none⟩ (.slice (some ⟨gN, 0, none⟩) j j)).setCell ⟨w.heap.size + 1, 1, none⟩ (.slice (some ⟨b1, 0, none⟩) n1 n1)).setCell ⟨w.heap.size + 1, 2, none⟩ (.slice (some ⟨b2, 0, none⟩) n2 n2)) := ((Keep.setCell _ _ (by simp) _).trans (Keep.setCell _ _ (by simp) _)).trans (Keep.setCell _ _ (by simp) _)
      have hl0 : (trimR g R).nodes.length = j := by show (R.map (nodeR g R)).length = j; rw [List.length_map]; exact HQ.out
      have hl1 : (trimR g R).roots.length = n1 := by show (g.roots.map (place R)).length = n1; rw [List.length_map]; exact HN.out.2.1
      have hl2 : (trimR g R).weaks.length = n2 := by show (g.weaks.map (place R)).length = n2; rw [List.length_map]; exact HN.out.2.2
      have hwz : w.heap.size + 1 < wr.heap.size := hrl2
      have h67 : wr.heap.size ≤ w6.heap.size := k6.size
      have hb1' : wr.heap.size ≤ b1 := hb1
      refine ⟨some ⟨gN, 0, none⟩, some ⟨b1, 0, none⟩, some ⟨b2, 0, none⟩, j, n1, n2, by rw [HT.out, hl0, hl1, hl2], ?_, (HE.out.2.1.trans k7).since hk8 (by simp)⟩
      rw [HT.out]
      refine ⟨?_, ?_, ?_⟩
      · exact NodRow.done hl0 ((HE.out.1.keep k7).keepO hk8 (by simp; omega))
      · exact row_intl hl1 ((hr1.keep hk8 (by simp; omega)).congr (fun i hi => by
          show _ = Value.int .i64 ((g.roots.map (place R)).getD i 0)
          have hi2 : i < g.roots.length := by rw [HN.out.2.1]; exact hi
          rw [List.getD_eq_getElem?_getD, List.getD_eq_getElem?_getD, List.getElem?_map, List.getElem?_eq_getElem hi2]
          rfl))
      · exact row_intl hl2 ((hr2.keep hk8 (by simp; omega)).congr (fun i hi => by
          show _ = Value.int .i64 ((g.weaks.map (place R)).getD i 0)
          have hi2 : i < g.weaks.length := by rw [HN.out.2.2]; exact hi
          rw [List.getD_eq_getElem?_getD, List.getD_eq_getElem?_getD, List.getElem?_map, List.getElem?_eq_getElem hi2]
          rfl))
  have hrow' := hrow
  obtain ⟨bs, hrow0, hrows⟩ := hrow
  obtain ⟨bR, oR, rfl, hbR, hcR⟩ := H4L.out.cells (by rw [natI_len, HQ.out]; omega)
  have cj0 := hcR j (by rw [natI_len, HQ.out]; exact hlt)
  rw [natI_get R (by rw [HQ.out]; exact hlt)] at cj0
  have cj5 := (H45.out.cell (p := ⟨bR, oR + j, none⟩) hbR (by simp)).trans cj0
  have cj := (hK.cell (p := ⟨bR, oR + j, none⟩) (by show bR < _; omega) (by simp; omega)).trans cj5
  have hmem : R.getD j 0 ∈ R := getD_mem (by rw [HQ.out]; exact hlt)
  have hin := HF.out.2 _ hmem
  have hLj : (R.map (nodeR g R)).getD j nod0 = nodeR g R (R.getD j 0) := by
    rw [List.getD_eq_getElem?_getD, List.getElem?_map, List.getD_eq_getElem?_getD, List.getElem?_eq_getElem (by rw [HQ.out]; exact hlt)]
    rfl
  obtain ⟨i, hi⟩ : ∃ i, R.getD j 0 = i := ⟨_, rfl⟩
  rw [hi] at cj hin hLj
  obtain ⟨bN, oN, rfl, hbN, hcN⟩ := (HG.out.1.nodes.keep hKw).cells (by rw [show g.nodes.length = g.n from rfl, HN.out.1]; omega)
  obtain ⟨AF, cF, d0, d1, hvF⟩ := hcN i (by rw [show g.nodes.length = g.n from rfl, HN.out.1]; exact hin)
  have hfs : (g.nodes.getD i nod0) = g.at i := rfl
  rw [hfs] at d0 d1 hvF
  have hbg := H5.out.2.2.2.2.2.1.keep hK (by simp; omega)
  have x0 := (hbg.cell 0).trans (show _ = some (Value.slice (some ⟨bN, oN, none⟩) n c0) from rfl)
  have hwd := H5.out.2.2.2.1.keep hK (by simp; omega)
  have hpl := H5.out.2.2.2.2.1.keep hK (by simp; omega)
  have hnode := node_any wr r s n cF R _ AF (g.at i).K (g.at i).fs hwd hpl hvF (HSL.out.2.2 i (by rw [HN.out.1]; exact hin)) (fun v hv => by have := HG.out.2.2.2.2 _ (at_mem (g := g) (i := i) (by rw [HN.out.1]; exact hin)) v hv; rwa [HN.out.1] at this)
  unfold NodePost at hnode
  rw [show (⟨(g.at i).K, (g.at i).fs.map (plainR R)⟩ : Nod) = nodeR g R i from rfl] at hnode
  have hnK : (nodeR g R i).K = (g.at i).K := rfl
  have hnF : (nodeR g R i).fs.length = (g.at i).fs.length := by unfold nodeR; rw [List.length_map]
  rw [hnK, hnF] at hnode
  have hlF := hvF.nc
  have hlM := hvF.cap
  have hgl := hrow0.lt
  have HE := Lib.hid (And.intro hLj (And.intro hrow' (And.intro hK (And.intro hnK hnF))))
  have hiI : (i : Int) < n := by omega
  have hjI : (j : Int) < q := by omega
  clear hcR cj0 cj5 hmem hi hLj hcN hfs hvF hbg hwd hpl hnK hnF hrow' hrows hrow0
  obtain ⟨mF, hmF⟩ : ∃ mF, (g.at i).fs.length = mF := ⟨_, rfl⟩
  obtain ⟨NK, hNK⟩ : ∃ NK, (g.at i).K = NK := ⟨_, rfl⟩
  rw [hmF, hNK] at hnode
  rw [hNK] at d0
  rw [hmF] at d1 hlF
  have HMF := Lib.hid (And.intro hmF hNK)
  clear hmF hNK
  go_wp2_with fail
  (with_reducible refine hnode.mono ?_)
  rintro e w6 ⟨b, rfl, hb, hrb, k6⟩
  have hrow6 := HE.out.2.1.keep k6
  obtain ⟨bs, hr6, _⟩ := id hrow6
  have c0 := hr6.cell (i := j * 2) (by omega)
  have c1 := hr6.cell (i := j * 2 + 1) (by omega)
  have f0 := hr6.frozen (j * 2)
  have f1 := hr6.frozen (j * 2 + 1)
  have hrow7 := NodRow.set (x := nodeR g R i) hlt HE.out.1 hrow6 (b := b) (by omega) (by rw [HE.out.2.2.2.2, HMF.out.1]; exact hrb)
  rw [HE.out.2.2.2.1, HE.out.2.2.2.2, HMF.out.1, HMF.out.2] at hrow7
  have hk7 : Keep [gN] w6 ((w6.setCell ⟨gN, j * 2, none⟩ (.int .i64 NK)).setCell ⟨gN, j * 2 + 1, none⟩ (.slice (some ⟨b, 0, none⟩) mF mF)) := (Keep.setCell _ _ (by simp) _).trans (Keep.setCell _ _ (by simp) _)
  have HR := Lib.hid (And.intro hrow7 ((HE.out.2.2.1.trans k6.of_nil).trans hk7))
  clear hnode hrb k6 hrow6 hr6 hrow7 hk7 cj d0 d1 x0
  generalize ndC (fun i => if i < j then ((R.map (nodeR g R)).getD i nod0).K else 0) (fun i => if i < j then .slice (some ⟨bs i, 0, none⟩) ((R.map (nodeR g R)).getD i nod0).fs.length ((R.map (nodeR g R)).getD i nod0).fs.length else .slice none 0 0) = NC at *
  go_wp2_with fail
  go_roundw
  case rel => exact ⟨j + 1, by omega, by go_num, HR.out.1, HR.out.2⟩
  case measure => simp [RowKit.intOf]; omega
end Go.Proofs.YtigclopkoolocaaDoor
