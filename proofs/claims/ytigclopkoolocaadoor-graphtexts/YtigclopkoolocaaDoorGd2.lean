/-
  The program's package graph: May; reach: a node that a walk comes to. No conditions but what is in memory.
-/
import Derived.Test.YtigclopkoolocaaDoorGd1
import Derived.Test.YtigclopkoolocaaDoorGr7
import Derived.BigRegion
namespace Go.Flo
open Go.RowKit Go.Bit

/-- The program's walk: r its block, s the block of the places; B: where its own row begins. -/
structure Wkd (w : World) (r s B n : Nat) (row : List Nat) : Prop where
  blk : ∃ v, Blk w r 42 #[v, .slice (some ⟨s, 0, none⟩) n n] ∧ w.ownsRow B 3 1 v row.length (row.map natv)
  places : Row w 3 s n n (fun i => .int .i64 (place row (i : Nat)))
  ne : r ≠ s
  rB : r < B
  sB : s < B
  Bw : B ≤ w.heap.size
  fine : Fine n row
end Go.Flo
namespace Go.Proofs.YtigclopkoolocaaDoor
open Go.RowKit Go.Flo Go.Bit
set_option maxRecDepth 100000

theorem _root_.Go.Flo.Wkd.below {w : World} {r s B n : Nat} {row : List Nat} (h : Wkd w r s B n row) : ∃ A c, Blk w r 42 #[.slice A row.length c, .slice (some ⟨s, 0, none⟩) n n] ∧ IntL w A c (natI row) := by
  obtain ⟨v, h1, h2⟩ := h.blk
  rw [natv_map, ← natI_len] at h2
  obtain ⟨A, c, rfl, h3⟩ := owns_intl h2
  rw [natI_len] at h1
  exact ⟨A, c, h1, h3⟩

theorem _root_.Go.Flo.Wkd.keep {w w' : World} {r s B n : Nat} {row : List Nat} (h : Wkd w r s B n row) (hk : Keep [] w w') : Wkd w' r s B n row := by
  obtain ⟨v, h1, h2⟩ := h.blk
  exact ⟨⟨v, h1.keep hk (by simp), owns_kept h2 hk⟩, h.places.keep hk (by simp), h.ne, h.rB, h.sB, Nat.le_trans h.Bw hk.size, h.fine⟩

set_option maxHeartbeats 4000000 in
theorem mayg_any (w : World) (A0 A1 A2 : Option Addr) (c0 c1 c2 : Nat) (g : Gr) (h : GIn w A0 A1 A2 c0 c1 c2 g) :
    Calls Tryd.prog 15 #[.agg #[.slice A0 g.nodes.length c0, .slice A1 g.roots.length c1, .slice A2 g.weaks.length c2]] w fun e w' => e = .returned (.bool (decide (MayG g))) ∧ Keep [] w w' := by
  obtain ⟨b, hb⟩ : ∃ b, decide (MayG g) = b := ⟨_, rfl⟩
  rw [hb]
  have HN := Lib.hid (show ¬ MayG g → b = false from fun e => by rw [← hb, decide_eq_false e])
  have HY := Lib.hid (show MayG g → b = true from fun e => by rw [← hb, decide_eq_true e])
  clear hb
  obtain ⟨n, hnn⟩ : ∃ n, g.n = n := ⟨_, rfl⟩
  have hnl : g.nodes.length = n := hnn
  have hnc := h.nodes.nc
  have hncm := h.nodes.cap
  have m1 := fun W (hk : Keep [] w W) => mayRoots_any W A0 A1 A2 A1 g.nodes.length g.roots.length g.weaks.length c0 c1 c2 c1 (by omega) g.roots (h.roots.keep hk)
  have m2 := fun W (hk : Keep [] w W) => mayRoots_any W A0 A1 A2 A2 g.nodes.length g.roots.length g.weaks.length c0 c1 c2 c2 (by omega) g.weaks (h.weaks.keep hk)
  have mf := fun W l A c (hv : Vals W A l.length c (fun j => l.getD j z0)) => mayFields_any W A0 A1 A2 A g.nodes.length g.roots.length g.weaks.length c0 c1 c2 c (by omega) l hv
  rw [hnl] at m1 m2 mf hnc ⊢
  obtain ⟨n1, hn1⟩ : ∃ n1, g.roots.length = n1 := ⟨_, rfl⟩
  obtain ⟨n2, hn2⟩ : ∃ n2, g.weaks.length = n2 := ⟨_, rfl⟩
  rw [hn1, hn2] at m1 m2 mf ⊢
  have HG := Lib.hid h.nodes
  have HQ := Lib.hid (And.intro hnn hnl)
  have ka : Keep [] w (w.alloc (.cells #[.slice A0 n c0, .slice A1 n1 c1, .slice A2 n2 c2] 25)) := Keep.alloc _ _
  have hbx := Blk.new w 25 #[.slice A0 n c0, .slice A1 n1 c1, .slice A2 n2 c2]
  by_cases h4 : n ≤ 4096
  case neg =>
    have h4' : (4096 : Int) < n := by omega
    have HD := Lib.hid (HN.out fun e => by have := e.1; omega)
    clear hnn hnl hn1 hn2 h m1 m2 mf hbx
    go_enter Tryd.func15, Tryd.ntmps15
    go_wp2
    go_ret
    exact ⟨by rw [HD.out]; rfl, ka⟩
  have h4' : ¬ (4096 : Int) < n := by omega
  obtain ⟨w1, hw1⟩ : ∃ w1, w1 = w.alloc (.cells #[.slice A0 n c0, .slice A1 n1 c1, .slice A2 n2 c2] 25) := ⟨_, rfl⟩
  rw [← hw1] at ka hbx
  have hm1 := m1 w1 ka
  have x0 := (hbx.cell 0).trans (show _ = some (Value.slice A0 n c0) from rfl)
  have x1 := (hbx.cell 1).trans (show _ = some (Value.slice A1 n1 c1) from rfl)
  have x2 := (hbx.cell 2).trans (show _ = some (Value.slice A2 n2 c2) from rfl)
  have HW := Lib.hid (And.intro hw1 (And.intro ka hbx))
  have M2 := Lib.hid m2
  have MF := Lib.hid mf
  by_cases hr : ∀ r ∈ g.roots, MayI n r
  case neg =>
    have HD := Lib.hid (HN.out fun e => hr (by have := e.2.1; rwa [hnn] at this))
    rw [decide_eq_false hr] at hm1
    clear hnn hnl hn1 hn2 h m1 m2 mf hbx ka hw1 hr
    go_enter Tryd.func15, Tryd.ntmps15
    go_wp2_with fail
    rw [← HW.out.1]
    (with_reducible refine hm1.mono ?_)
    rintro e w2 ⟨rfl, k2⟩
    have HK := Lib.hid (HW.out.2.1.trans k2)
    clear k2 hm1 x0 x1 x2
    go_wp2
    go_ret
    exact ⟨by rw [HD.out]; rfl, HK.out⟩
  rw [decide_eq_true hr] at hm1
  have HR := Lib.hid hr
  clear hnn hnl hn1 hn2 h m1 m2 mf hbx ka hw1 hr
  go_enter Tryd.func15, Tryd.ntmps15
  go_wp2_with fail
  rw [← HW.out.1]
  (with_reducible refine hm1.mono ?_)
  rintro e w2 ⟨rfl, k2⟩
  have hbx := HW.out.2.2.keep k2 (by simp)
  have hm2 := M2.out w2 (HW.out.2.1.trans k2)
  have HK2 := Lib.hid (And.intro (HW.out.2.1.trans k2) hbx)
  clear hm1 x0 x1 x2
  have x0 := (hbx.cell 0).trans (show _ = some (Value.slice A0 n c0) from rfl)
  have x1 := (hbx.cell 1).trans (show _ = some (Value.slice A1 n1 c1) from rfl)
  have x2 := (hbx.cell 2).trans (show _ = some (Value.slice A2 n2 c2) from rfl)
  clear hbx k2
  by_cases hr : ∀ r ∈ g.weaks, MayI n r
  case neg =>
    have HD := Lib.hid (HN.out fun e => hr (by have := e.2.2.1; rwa [HQ.out.1] at this))
    rw [decide_eq_false hr] at hm2
    clear hr
    go_wp2_with fail
    (with_reducible refine hm2.mono ?_)
    rintro e w3 ⟨rfl, k3⟩
    have HK := Lib.hid (HK2.out.1.trans k3)
    clear k3 hm2 x0 x1 x2
    go_wp2
    go_ret
    exact ⟨by rw [HD.out]; rfl, HK.out⟩
  rw [decide_eq_true hr] at hm2
  have HR2 := Lib.hid hr
  clear hr
  go_wp2_with fail
  (with_reducible refine hm2.mono ?_)
  rintro e w3 ⟨rfl, k3⟩
  have hbx := HK2.out.2.keep k3 (by simp)
  have HK3 := Lib.hid (And.intro (HK2.out.1.trans k3) hbx)
  clear hm2 x0 x1 x2
  have x0 := (hbx.cell 0).trans (show _ = some (Value.slice A0 n c0) from rfl)
  clear hbx k3
  go_wp2
  clear x0
  go_loopw [26] (fun x wr => ∃ k : Nat, k ≤ n ∧ x = .int .i64 k ∧ MayN g k ∧ Keep [] w3 wr) (fun x _ => n - (RowKit.intOf x).toNat)
  case atStart => exact ⟨0, by omega, rfl, fun i hi => by omega, Keep.refl _ _⟩
  case round =>
  obtain ⟨k, hk, rfl, hok, hK⟩ := hrel
  by_cases hkt : k < n
  case neg =>
    obtain rfl : k = n := by omega
    have HD := Lib.hid (And.intro (HY.out ((mayG_iff g).2 ⟨by rw [HQ.out.1]; exact h4, by rw [HQ.out.1]; exact HR.out, by rw [HQ.out.1]; exact HR2.out, by rw [HQ.out.1]; exact hok⟩)) (HK3.out.1.trans hK))
    clear hok hK
    go_wp2
    go_ret
    exact ⟨by rw [HD.out.1]; rfl, HD.out.2⟩
  have hKw := HK3.out.1.trans hK
  obtain ⟨bN, oN, rfl, hbN, hcN⟩ := (HG.out.keep hKw).cells (by rw [HQ.out.2]; omega)
  obtain ⟨AF, cF, e0, e1, hvF⟩ := hcN k (by rw [HQ.out.2]; exact hkt)
  have hfs : (g.nodes.getD k nod0) = g.at k := rfl
  rw [hfs] at e0 e1 hvF
  have hbadn : ¬ (∀ v ∈ (g.at k).fs, MayV n v) → b = false := fun e => HN.out fun hm => e fun v hv => by have := hm.2.2.2 _ (at_mem (g := g) (i := k) (by rw [HQ.out.1]; exact hkt)) v hv; rwa [HQ.out.1] at this
  have hgoodn : (∀ v ∈ (g.at k).fs, MayV n v) → MayN g (k + 1) := fun e i hi => by
    rcases Nat.lt_or_ge i k with h | h
    · exact hok i h
    · rw [show i = k by omega, HQ.out.1]; exact e
  generalize (g.at k).K = NK at *
  have kb : Keep [] wr (wr.alloc (.cells #[.int .i64 NK, .slice AF (g.at k).fs.length cF] 33)) := Keep.alloc _ _
  have hbx := (HK3.out.2.keep hK (by simp)).keep kb (by simp)
  have hmf := MF.out _ _ _ _ (hvF.keep kb)
  have hfc := hvF.nc
  have hfm := hvF.cap
  have y0 := (hbx.cell 0).trans (show _ = some (Value.slice (some ⟨bN, oN, none⟩) n c0) from rfl)
  have y1 := (hbx.cell 1).trans (show _ = some (Value.slice A1 n1 c1) from rfl)
  have y2 := (hbx.cell 2).trans (show _ = some (Value.slice A2 n2 c2) from rfl)
  have HD := Lib.hid (And.intro hbadn (And.intro hgoodn (hK.trans kb)))
  clear hcN hfs hvF hok hK hKw kb hbx
  by_cases hf : ∀ v ∈ (g.at k).fs, MayV n v
  · have HE := Lib.hid (hgoodn hf)
    rw [decide_eq_true hf] at hmf
    generalize (g.at k).fs.length = mF at *
    clear hf hbadn hgoodn
    go_wp2_with fail
    (with_reducible refine hmf.mono ?_)
    rintro e w5 ⟨rfl, k5⟩
    have HK := Lib.hid (HD.out.2.2.trans k5)
    clear k5 hmf e0 e1 y0 y1 y2
    go_wp2
    go_roundw
    case rel => exact ⟨k + 1, by omega, by go_num, HE.out, HK.out⟩
    case measure => simp [RowKit.intOf]; omega
  · have HE := Lib.hid (hbadn hf)
    rw [decide_eq_false hf] at hmf
    generalize (g.at k).fs.length = mF at *
    clear hf hbadn hgoodn
    go_wp2_with fail
    (with_reducible refine hmf.mono ?_)
    rintro e w5 ⟨rfl, k5⟩
    have HK := Lib.hid (HD.out.2.2.trans k5)
    clear k5 hmf e0 e1 y0 y1 y2
    go_wp2
    go_ret
    exact ⟨by rw [HE.out]; rfl, HK3.out.1.trans HK.out⟩

set_option maxHeartbeats 1000000 in
/-- A node that the walk comes to. -/
theorem wreach_any (w : World) (r s B n : Nat) (row : List Nat) (i : Int) (h : Wkd w r s B n row) (hn : n ≤ 65536) (h0 : 0 ≤ i) (h1 : i < n) :
    Calls Tryd.prog 40 #[.pointer (some ⟨r, 0, none⟩), .int .i64 i] w fun e w' => e = .returned (.tuple #[]) ∧ Wkd w' r s B n (put n row i) ∧ ∀ base, base ≤ r → base ≤ s → base ≤ B → Below base w w' := by
  obtain ⟨k, rfl⟩ : ∃ k : Nat, i = k := ⟨i.toNat, by omega⟩
  obtain ⟨A0, c0, hb0, hi0⟩ := h.below
  have c0' := (hb0.cell 0).trans (show _ = some (Value.slice A0 row.length c0) from rfl)
  have c1 := (hb0.cell 1).trans (show _ = some (Value.slice (some ⟨s, 0, none⟩) n n) from rfl)
  have HR := Lib.hid h
  have cs := h.places.cell (i := k) (by omega)
  have hkn : k < n := by omega
  have hrc := hi0.nc
  have hrm := hi0.cap
  rw [natI_len] at hrc
  by_cases hm : k ∈ row
  · rw [place_in hm] at cs
    have t1 : (((row.idxOf k : Nat) : Int) == -1) = false := by simp
    have HD := Lib.hid (show put n row k = row from if_neg (fun e => e.2.2 (by simpa using hm)))
    clear h hm hb0 hi0
    generalize row.idxOf k = q at *
    go_enter Tryd.func40, Tryd.ntmps40
    go_wp2
    go_end0
    rw [HD.out]
    exact ⟨rfl, HR.out, fun _ _ _ _ => Below.refl _ _⟩
  rw [show place row (k : Nat) = -1 from if_neg (fun e => hm (by simpa using e.2))] at cs
  have hlen := h.fine.len
  have hne := h.ne
  have hrB := h.rB
  have hsB := h.sB
  have hBw := h.Bw
  have HD := Lib.hid (show put n row k = row ++ [k] by unfold put; rw [if_pos ⟨by omega, by omega, by simpa using hm⟩, Int.toNat_natCast])
  have fs := h.places.frozen k
  have f0 := hb0.frozen 0
  have hne2 : ¬ s = r := fun e => hne e.symm
  have hrw := hb0.lt
  obtain ⟨v, hb1, hown⟩ := h.blk
  obtain rfl : v = .slice A0 row.length c0 := by
    have := (hb1.cell 0).symm.trans (hb0.cell 0)
    simpa using this
  clear hb1
  obtain ⟨L, hL⟩ : ∃ L, row.length = L := ⟨_, rfl⟩
  rw [hL] at hown hb0 c0' hrc hlen
  have HLn := Lib.hid hL
  have ho2 := ownsRow_setCell_below hown (a := ⟨s, k, none⟩) (by show s < B; exact hsB) (.int .i64 (L : Nat))
  have HO := Lib.hid ho2
  have HS := Lib.hid h.places
  have HB := Lib.hid hb0
  have HF := Lib.hid (put_fine (n := n) (k : Int) h.fine)
  clear h hown ho2 hm hb0 hi0 hL
  have x0d : w.drew.cell? ⟨r, 0, none⟩ = some (.slice A0 L c0) := c0'
  have x1d : w.drew.cell? ⟨r, 1, none⟩ = some (Value.slice (some ⟨s, 0, none⟩) n n) := c1
  have fsd : w.drew.frozen? ⟨s, k, none⟩ = false := fs
  obtain ⟨ii, hii, hz0, hz1, hz2⟩ := info_of intparts
  go_enter Tryd.func40, Tryd.ntmps40
  go_wp2_with fail
  go_region
  obtain ⟨wd, hwd⟩ : ∃ wd, wd = (w.setCell ⟨s, k, none⟩ (.int .i64 (L : Nat))).drew := ⟨_, rfl⟩
  rw [← hwd]
  have hkd : Keep [] (w.setCell ⟨s, k, none⟩ (.int .i64 (L : Nat))) wd := by rw [hwd]; exact Keep.drew _
  have hwz : wd.heap.size = w.heap.size := by rw [hwd]; simp [World.drew, World.setCell]
  have hs4 : Row (w.setCell ⟨s, k, none⟩ (.int .i64 (L : Nat))) 3 s n n (fun i => .int .i64 (place (row ++ [k]) (i : Nat))) := (HS.out.set_ k (.int .i64 (L : Nat))).congr (fun a ha => by
    rw [place_snoc (by have := HF.out; rw [HD.out] at this; have h9 := List.nodup_append.1 this.1; exact fun hm => h9.2.2 k hm k (by simp) rfl), HLn.out]
    by_cases e : a = k
    · subst e; simp
    · rw [if_neg e, if_neg e])
  have hs4 := hs4.keep hkd (by simp)
  have hb4 := (HB.out.far (p := ⟨s, k, none⟩) hne (.int .i64 (L : Nat))).keep hkd (by simp)
  have hown4 := owns_kept HO.out hkd
  have hbel4 : ∀ base, base ≤ r → base ≤ s → base ≤ B → Below base w wd := fun base b1 b2 b3 => by
    rw [hwd]
    exact below_of ((Below.refl base w).setCell (p := ⟨s, k, none⟩) b2 _) (Keep.drew _) (by simp [World.setCell]; omega)
  have HOA := Lib.hid (owns_kept hown4 (Keep.alloc (own := []) wd (.cells #[.int .i64 (k : Nat)] 3)))
  have hnw := one_new6 wd (.int .i64 (k : Nat)) 3
  rw [hwz] at hnw
  have HNW := Lib.hid hnw
  have y0 := (hb4.cell 0).trans (show _ = some (Value.slice A0 L c0) from rfl)
  have HX := Lib.hid (And.intro hs4 (And.intro hb4 (And.intro hbel4 hown4)))
  clear hwd hkd hs4 hb4 hown4 hbel4 c0' c1 cs fs f0 x0d x1d fsd hnw HO HS HB
  go_wp2_with (at_builtin; refine wpList_append_own_at _ rfl (.tmp 27) (.tmp 29) 23 rfl B 3 ii (.int .i64 0) 1 8 Tryd.underlying23 hii hz0 hz1 hz2 rfl (by omega) (.slice A0 L c0) L (row.map natv) rfl HOA.out ⟨w.heap.size, 0, none⟩ 1 1 [.int .i64 (k : Nat)] rfl rfl HNW.out ?c3 ?c4 ?c5 ?c6 ?_)
  case c3 => first | rfl | (intro z hz; simp at hz; subst hz; rfl)
  case c4 => unfold maxLen; omega
  case c5 => omega
  case c6 => first | omega | (simp [World.setCell]; omega)
  intro v' w' hown hgrow _ _
  have ka : Keep [] wd (wd.alloc (.cells #[.int .i64 (k : Nat)] 3)) := Keep.alloc _ _
  have hs5 := grown_row (HX.out.1.keep ka (by simp)) hsB HOA.out hgrow
  have hb5 := grown_blk (HX.out.2.1.keep ka (by simp)) hrB HOA.out hgrow
  have hbel : ∀ base, base ≤ r → base ≤ s → base ≤ B → Below base w w' := fun base b1 b2 b3 => by
    refine Below.grown ((HX.out.2.2.1 base b1 b2 b3).alloc (by omega) _) hgrow (by simp; omega) ?_
    intro g hg
    have := (HOA.out.lt g hg).1
    omega
  have hsz : B ≤ w'.heap.size := by have := (hbel 0 (by omega) (by omega) (by omega)).size; omega
  obtain ⟨A2, c2, rfl⟩ := owns_sl hown
  have hown2 : w'.ownsRow B 3 1 (.slice A2 (L + 1) c2) (row ++ [k]).length ((row ++ [k]).map natv) := by
    rw [List.map_append, List.length_append, HLn.out]
    exact hown
  have y0 := (hb5.cell 0).trans (show _ = some (Value.slice A0 L c0) from rfl)
  have y1 := hb5.frozen 0
  have HH := Lib.hid (And.intro hown2 (And.intro hs5 (And.intro hb5 (And.intro hbel hsz))))
  clear hown hown2 hgrow ka hs5 hb5 hbel hsz
  go_wp2
  go_end0
  rw [HD.out]
  obtain ⟨g1, g2, g3, g4, g5⟩ := HH.out
  refine ⟨rfl, ⟨⟨_, g3.set_ 0 _, ownsRow_setCell_below g1 (a := ⟨r, 0, none⟩) hrB _⟩, g2.far (by show s ≠ r; exact hne2) _, hne, hrB, hsB, by simpa [World.setCell] using g5, ?_⟩, fun base b1 b2 b3 => (g4 base b1 b2 b3).setCell (p := ⟨r, 0, none⟩) b1 _⟩
  have := HF.out
  rwa [HD.out] at this
end Go.Proofs.YtigclopkoolocaaDoor
