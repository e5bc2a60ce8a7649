/-
  Package layout: Super. No conditions but what a layout is.
-/
import Derived.Test.YtihfejbkojhkaaaLps1
import Derived.Test.YtihfejbkojhkaaaLay4
import Derived.Deep.DeepCutAuto
import Derived.OwnWalk
namespace Go.Proofs.Ytihfejbkojhkaaa
open Go.RowKit Go.Flo Go.Bit
set_option maxRecDepth 100000

theorem u64parts : (Try.prog.info? 51).map (fun i => (i.zero, i.size, i.bytes)) = some (some (.int .u64 0), 1, 8) := by kernel_rfl
theorem mk_sup (n : Nat) (hn : n ≤ 1000) (W : World) : (Instr.makeSlice 46 (.int .i64 9) (.int .i64 (9 + (n : Int)))).run Try.prog W = .ok (.slice (some ⟨W.heap.size, 0, none⟩) 9 (9 + n)) (W.alloc (.cells (madeCells #[.int .u64 0] (9 + n)) 51)) := by
  obtain ⟨i, hi, h1, h2, h3⟩ := info_of u64parts
  have := run_make (P := Try.prog) W 46 51 i (.int .u64 0) Try.underlying46 hi h1 .i64 .i64 9 (9 + (n : Int)) (by omega) (by omega) (by rw [h3]; omega) (by omega)
  rw [h2, show (9 + (n : Int)).toNat = 9 + n by omega] at this
  simpa [Value.cells] using this
theorem sup_row (W : World) (n : Nat) (hn : n ≤ 1000) (t : TypeId) (v : Value) : Row (W.alloc (.cells (madeCells #[v] (9 + n)) t)) t W.heap.size 9 (9 + n) (fun _ => v) := by
  refine ⟨_, heap_alloc_new W _, by rw [size_madeCells], by omega, by unfold maxLen; omega, fun i hi => ?_⟩
  have : i < 9 + n := by omega
  simp [madeCells, this, Nat.mod_one]

/-- The super words. -/
def supW (C : Cf) (m : Nat → Nat) (f : Nat → Nat → Int) : Nat → Nat
  | 0 => magicN
  | 1 => C.r
  | 2 => C.wk
  | 3 => C.lg
  | 4 => C.b0
  | 5 => C.b1
  | 6 => C.b2
  | 7 => C.b3
  | 8 => C.n
  | k + 9 => kw (m k) (f k)
def supV (C : Cf) (m : Nat → Nat) (f : Nat → Nat → Int) (k : Nat) : Value := .int .u64 (supW C m f k : Nat)
theorem supW_kind (C : Cf) (m : Nat → Nat) (f : Nat → Nat → Int) (i : Nat) : supW C m f (9 + i) = kw (m i) (f i) := by rw [Nat.add_comm]; rfl
def SupPost (C : Cf) (m : Nat → Nat) (f : Nat → Nat → Int) (w : World) (e : Ending) (w' : World) : Prop :=
  ∃ g cap, e = .returned (.slice (some ⟨g, 0, none⟩) (9 + C.n) cap) ∧ Row w' 51 g (9 + C.n) cap (supV C m f) ∧ w.heap.size ≤ g ∧ Keep [] w w'
/-- On the way: the first k words. -/
def SupR (C : Cf) (A : Option Addr) (cap : Nat) (m : Nat → Nat) (f : Nat → Nat → Int) (k : Nat) (w wx : World) : Prop :=
  Row wx 51 (w.heap.size + 1) 9 (9 + C.n) (fun i => if i < k then supV C m f i else .int .u64 0) ∧ Blk wx w.heap.size 25 #[.slice A C.n cap, .int .i64 C.b0, .int .i64 C.b1, .int .i64 C.b2, .int .i64 C.b3, .int .i64 C.r, .int .i64 C.wk, .int .i64 C.lg] ∧ Keep [] w wx
theorem SupR.start (C : Cf) (A : Option Addr) (cap : Nat) (m : Nat → Nat) (f : Nat → Nat → Int) (ok : C.Ok) (w : World) : SupR C A cap m f 0 w ((w.alloc (.cells #[.slice A C.n cap, .int .i64 C.b0, .int .i64 C.b1, .int .i64 C.b2, .int .i64 C.b3, .int .i64 C.r, .int .i64 C.wk, .int .i64 C.lg] 25)).alloc (.cells (madeCells #[.int .u64 0] (9 + C.n)) 51)) := by
  have k1 : Keep [] w (w.alloc (.cells #[.slice A C.n cap, .int .i64 C.b0, .int .i64 C.b1, .int .i64 C.b2, .int .i64 C.b3, .int .i64 C.r, .int .i64 C.wk, .int .i64 C.lg] 25)) := Keep.alloc _ _
  have k2 : Keep [] (w.alloc (.cells #[.slice A C.n cap, .int .i64 C.b0, .int .i64 C.b1, .int .i64 C.b2, .int .i64 C.b3, .int .i64 C.r, .int .i64 C.wk, .int .i64 C.lg] 25)) ((w.alloc (.cells #[.slice A C.n cap, .int .i64 C.b0, .int .i64 C.b1, .int .i64 C.b2, .int .i64 C.b3, .int .i64 C.r, .int .i64 C.wk, .int .i64 C.lg] 25)).alloc (.cells (madeCells #[.int .u64 0] (9 + C.n)) 51)) := Keep.alloc _ _
  have hr := sup_row (w.alloc (.cells #[.slice A C.n cap, .int .i64 C.b0, .int .i64 C.b1, .int .i64 C.b2, .int .i64 C.b3, .int .i64 C.r, .int .i64 C.wk, .int .i64 C.lg] 25)) C.n (by have := ok.n; omega) 51 (.int .u64 0)
  rw [show (w.alloc (.cells #[.slice A C.n cap, .int .i64 C.b0, .int .i64 C.b1, .int .i64 C.b2, .int .i64 C.b3, .int .i64 C.r, .int .i64 C.wk, .int .i64 C.lg] 25)).heap.size = w.heap.size + 1 by simp] at hr
  exact ⟨hr.congr (fun i hi => by simp), (Blk.new w 25 #[.slice A C.n cap, .int .i64 C.b0, .int .i64 C.b1, .int .i64 C.b2, .int .i64 C.b3, .int .i64 C.r, .int .i64 C.wk, .int .i64 C.lg]).keep k2 (by simp), k1.trans k2⟩
theorem SupR.set {C : Cf} {A : Option Addr} {cap : Nat} {m : Nat → Nat} {f : Nat → Nat → Int} {k : Nat} {w wx : World} (h : SupR C A cap m f k w wx) (v : Value) (hv : supV C m f k = v) : SupR C A cap m f (k + 1) w (wx.setCell ⟨w.heap.size + 1, k, none⟩ v) := by
  refine ⟨(h.1.set_ k v).congr (fun i hi => ?_), h.2.1.far (by simp) _, h.2.2.since (own := [w.heap.size + 1]) (Keep.setCell _ _ (by simp) _) (by simp)⟩
  by_cases e : i = k
  · subst e; simp [hv]
  · by_cases e2 : i < k
    · simp [e, e2, Nat.lt_succ_of_lt e2]
    · have e3 : ¬ i < k + 1 := by omega
      simp [e, e2, e3]
def SuRel (C : Cf) (m : Nat → Nat) (f : Nat → Nat → Int) (w : World) (x y : Value) (wr : World) : Prop :=
  ∃ (j g cap : Nat), j ≤ C.n ∧ y = .int .i64 j ∧ x = .slice (some ⟨g, 0, none⟩) (9 + j) cap ∧ Row wr 51 g (9 + j) cap (supV C m f) ∧ w.heap.size ≤ g ∧ Keep [] w wr
theorem one_new (W : World) (v : Value) (t : TypeId) : ∀ j u, [v][j]? = some u → (W.alloc (.cells #[v] t)).cell? ((⟨W.heap.size, 0, none⟩ : Addr).add j) = some u := by
  intro j u hu
  match j, hu with
  | 0, hu =>
    rw [addr_add0]
    have := (Blk.new W t #[v]).cell 0
    rw [Nat.zero_add, this]
    simpa using hu

set_option maxHeartbeats 2000000 in
theorem super_l {w : World} {g : Nat} {C : Cf} {m : Nat → Nat} {f : Nat → Nat → Int} (h : Lyt w g C m f) (ok : C.Ok) (hk : MayKs C.n m f) :
    Calls Try.prog 35 #[.pointer (some ⟨g, 0, none⟩)] w (SupPost C m f w) := by
  obtain ⟨A, cap, hb, hK⟩ := h
  have q0 := (hb.cell 0).trans (show _ = some (Value.slice A C.n cap) from rfl)
  have q1 := (hb.cell 1).trans (show _ = some (Value.int .i64 C.b0) from rfl)
  have q2 := (hb.cell 2).trans (show _ = some (Value.int .i64 C.b1) from rfl)
  have q3 := (hb.cell 3).trans (show _ = some (Value.int .i64 C.b2) from rfl)
  have q4 := (hb.cell 4).trans (show _ = some (Value.int .i64 C.b3) from rfl)
  have q5 := (hb.cell 5).trans (show _ = some (Value.int .i64 C.r) from rfl)
  have q6 := (hb.cell 6).trans (show _ = some (Value.int .i64 C.wk) from rfl)
  have q7 := (hb.cell 7).trans (show _ = some (Value.int .i64 C.lg) from rfl)
  have hglt : g < w.heap.size := hb.lt
  have hn := ok.n
  have b0 := ok.b0
  have b1 := ok.b1
  have b2 := ok.b2
  have b3 := ok.b3
  have b4 := ok.r
  have b5 := ok.wk
  have b6 := ok.lg
  have hmk := fun W => mk_sup C.n (by omega) W
  have m1 := fun W => int_nat C.r (by omega) W
  have m2 := fun W => int_nat C.wk (by omega) W
  have m3 := fun W => int_nat C.lg (by omega) W
  have m4 := fun W => int_nat C.b0 (by omega) W
  have m5 := fun W => int_nat C.b1 (by omega) W
  have m6 := fun W => int_nat C.b2 (by omega) W
  have m7 := fun W => int_nat C.b3 (by omega) W
  have m8 := fun W => int_nat C.n (by omega) W
  have i0 := fun W => idx40 W C.b0 C.b1 C.b2 C.b3
  have i1 := fun W => idx41 W C.b0 C.b1 C.b2 C.b3
  have i2 := fun W => idx42 W C.b0 C.b1 C.b2 C.b3
  have i3 := fun W => idx43 W C.b0 C.b1 C.b2 C.b3
  have hs := SupR.start C A cap m f ok w
  have HS := Lib.hid hs
  have HK := Lib.hid hK
  have HKS := Lib.hid hk
  clear hb hK hs hk
  go_enter Try.func35, Try.ntmps35
  go_upto_region 5 with fail
  refine gen_world (R := SupR C A cap m f 0 w) HS.out ?_
  clear HS q0 q1 q2 q3 q4 q5 q6 q7 hmk
  intro wz hz
  have HS := Lib.hid (fun wx (e : wx = ((((wz.setCell ⟨w.heap.size + 1, 0, none⟩ (.int .u64 8317131967827831151)).setCell ⟨w.heap.size + 1, 1, none⟩ (.int .u64 (C.r : Nat))).setCell ⟨w.heap.size + 1, 2, none⟩ (.int .u64 (C.wk : Nat))).setCell ⟨w.heap.size + 1, 3, none⟩ (.int .u64 (C.lg : Nat)))) => (show SupR C A cap m f 4 w wx from e ▸ (((hz.set _ rfl).set _ rfl).set _ rfl).set _ rfl))
  have hrow := hz.1
  have y0 := hrow.cell (show 0 < 9 by omega)
  have y1 := hrow.cell (show 1 < 9 by omega)
  have y2 := hrow.cell (show 2 < 9 by omega)
  have y3 := hrow.cell (show 3 < 9 by omega)
  have u0 := hrow.frozen 0
  have u1 := hrow.frozen 1
  have u2 := hrow.frozen 2
  have u3 := hrow.frozen 3
  simp only [Nat.not_lt_zero, if_false] at y0 y1 y2 y3
  have q5 := (hz.2.1.cell 5).trans (show _ = some (Value.int .i64 C.r) from rfl)
  have q6 := (hz.2.1.cell 6).trans (show _ = some (Value.int .i64 C.wk) from rfl)
  have q7 := (hz.2.1.cell 7).trans (show _ = some (Value.int .i64 C.lg) from rfl)
  clear hz hrow
  go_wp2_with fail
  (with_reducible refine (m1 _).mono ?_)
  rintro e w' ⟨rfl, rfl⟩
  go_wp2_with fail
  (with_reducible refine (m2 _).mono ?_)
  rintro e w' ⟨rfl, rfl⟩
  go_wp2_with fail
  (with_reducible refine (m3 _).mono ?_)
  rintro e w' ⟨rfl, rfl⟩
  go_upto_region 9 with fail
  refine gen_world (R := SupR C A cap m f 4 w) (HS.out _ (by with_reducible rfl)) ?_
  clear HS y0 y1 y2 y3 u0 u1 u2 u3 q5 q6 q7 m1 m2 m3
  generalize wz = wy
  intro wa ha
  have HS := Lib.hid (fun wx (e : wx = (((((wa.setCell ⟨w.heap.size + 1, 4, none⟩ (.int .u64 (C.b0 : Nat))).setCell ⟨w.heap.size + 1, 5, none⟩ (.int .u64 (C.b1 : Nat))).setCell ⟨w.heap.size + 1, 6, none⟩ (.int .u64 (C.b2 : Nat))).setCell ⟨w.heap.size + 1, 7, none⟩ (.int .u64 (C.b3 : Nat))).setCell ⟨w.heap.size + 1, 8, none⟩ (.int .u64 (C.n : Nat)))) => (show SupR C A cap m f 9 w wx from e ▸ ((((ha.set _ rfl).set _ rfl).set _ rfl).set _ rfl).set _ rfl))
  have hrow := ha.1
  have y4 := hrow.cell (show 4 < 9 by omega)
  have y5 := hrow.cell (show 5 < 9 by omega)
  have y6 := hrow.cell (show 6 < 9 by omega)
  have y7 := hrow.cell (show 7 < 9 by omega)
  have y8 := hrow.cell (show 8 < 9 by omega)
  have u4 := hrow.frozen 4
  have u5 := hrow.frozen 5
  have u6 := hrow.frozen 6
  have u7 := hrow.frozen 7
  have u8 := hrow.frozen 8
  simp only [show ¬ 4 < 4 by omega, show ¬ 5 < 4 by omega, show ¬ 6 < 4 by omega, show ¬ 7 < 4 by omega, show ¬ 8 < 4 by omega, if_false] at y4 y5 y6 y7 y8
  have q0 := (ha.2.1.cell 0).trans (show _ = some (Value.slice A C.n cap) from rfl)
  have q1 := (ha.2.1.cell 1).trans (show _ = some (Value.int .i64 C.b0) from rfl)
  have q2 := (ha.2.1.cell 2).trans (show _ = some (Value.int .i64 C.b1) from rfl)
  have q3 := (ha.2.1.cell 3).trans (show _ = some (Value.int .i64 C.b2) from rfl)
  have q4 := (ha.2.1.cell 4).trans (show _ = some (Value.int .i64 C.b3) from rfl)
  clear ha hrow
  go_wp2
  refine wp_loop_rounds 5 ?_
  rw [rounds_succ]; go_wp2_with fail
  (with_reducible refine (m4 _).mono ?_)
  rintro e w' ⟨rfl, rfl⟩
  go_wp2
  rw [rounds_succ]; go_wp2_with fail
  (with_reducible refine (m5 _).mono ?_)
  rintro e w' ⟨rfl, rfl⟩
  go_wp2
  rw [rounds_succ]; go_wp2_with fail
  (with_reducible refine (m6 _).mono ?_)
  rintro e w' ⟨rfl, rfl⟩
  go_wp2
  rw [rounds_succ]; go_wp2_with fail
  (with_reducible refine (m7 _).mono ?_)
  rintro e w' ⟨rfl, rfl⟩
  go_wp2
  rw [rounds_succ]; go_wp2_with fail
  (with_reducible refine (m8 _).mono ?_)
  rintro e w' ⟨rfl, rfl⟩
  go_upto_region 15 with fail
  refine gen_world (R := SupR C A cap m f 9 w) (HS.out _ (by with_reducible rfl)) ?_
  clear HS y4 y5 y6 y7 y8 u4 u5 u6 u7 u8 q0 q1 q2 q3 q4 m4 m5 m6 m7 m8 i0 i1 i2 i3
  generalize wa = wo
  intro wb hb
  have q0 := (hb.2.1.cell 0).trans (show _ = some (Value.slice A C.n cap) from rfl)
  have hrow : Row wb 51 (w.heap.size + 1) 9 (9 + C.n) (supV C m f) := hb.1.congr (fun i hi => by simp [hi])
  have hkb := hb.2.2
  clear hb
  obtain ⟨iu, hiu, hz0, hz1, hz2⟩ := info_of u64parts
  go_wp2
  clear q0
  go_loopw [4, 59] (fun x y wr => SuRel C m f w x y wr) (fun _ y _ => C.n - (intOf y).toNat)
  case atStart => exact ⟨0, w.heap.size + 1, 9 + C.n, by omega, rfl, rfl, hrow, by omega, hkb⟩
  case round =>
  obtain ⟨j, gr, capr, hj, rfl, rfl, hr, hgr, hK⟩ := hrel
  by_cases hlt : j < C.n
  case neg =>
    obtain rfl : j = C.n := by omega
    go_wp2
    go_ret
    exact ⟨gr, capr, rfl, hr, hgr, hK⟩
  obtain ⟨b, oo, rfl, hbb, hc⟩ := (HK.out.keep hK).cells (by omega)
  obtain ⟨A', c', cj, hI⟩ := hc j hlt
  have hmk := HKS.out.2.2 j hlt
  have k2 : Keep [] wr (wr.alloc (.cells #[.slice A' (m j) c'] 60)) := Keep.alloc _ _
  have hkw := kindWord_any _ A' (m j) c' (f j) (hI.keep k2) hmk.2.1 (fun i hi => (hmk.2.2.1 i hi).fld)
  have HN := Lib.hid (show supV C m f (9 + j) = .int .u64 (kw (m j) (f j) : Nat) by unfold supV; rw [supW_kind])
  generalize kw (m j) (f j) = X at *
  have HR := Lib.hid hr
  have hgl := hr.lt
  have hrc := hr.cap_le
  clear hc hI hmk hr
  go_wp2_with fail
  (with_reducible refine hkw.mono ?_)
  rintro e w3 ⟨rfl, k3⟩
  have ka : Keep [] w3 (w3.alloc (.cells #[.int .u64 (X : Nat)] 51)) := Keep.alloc _ _
  have hr4 := HR.out.keep ((k2.trans k3).trans ka) (by simp)
  have hown := hr4.toOwns w.heap.size hgr
  have hnw := one_new w3 (.int .u64 (X : Nat)) 51
  have hsz3 : w.heap.size ≤ w3.heap.size := ((hK.trans k2).trans k3).size
  have HO := Lib.hid hown
  have HNW := Lib.hid hnw
  clear hown hr4 hnw
  go_wp2_with (at_builtin; refine wpList_append_own_at _ rfl (.tmp 63) (.tmp 66) 46 rfl w.heap.size 51 iu (.int .u64 0) 1 8 Try.underlying46 hiu hz0 hz1 hz2 rfl (by omega) (.slice (some ⟨gr, 0, none⟩) (9 + j) capr) (9 + j) ((List.range (9 + j)).map (supV C m f)) rfl HO.out ⟨w3.heap.size, 0, none⟩ 1 1 [.int .u64 (X : Nat)] rfl ?c1 HNW.out ?c3 ?c4 ?c5 ?c6 ?_)
  case c1 => rfl
  case c3 => intro u hu; simp at hu; subst hu; rfl
  case c4 => unfold maxLen; omega
  case c5 => omega
  case c6 => simp; omega
  intro v' w' hown hgrow hnil hblk
  have hk4 : Keep [gr] (w3.alloc (.cells #[.int .u64 (X : Nat)] 51)) w' := Keep.grown hgrow (fun k _ e => by simp [Value.ownBlock] at e; simp [e])
  have hfin : ∃ g2 cap2, v' = .slice (some ⟨g2, 0, none⟩) (9 + (j + 1)) cap2 ∧ Row w' 51 g2 (9 + (j + 1)) cap2 (supV C m f) ∧ w.heap.size ≤ g2 := by
    rw [show (List.range (9 + j)).map (supV C m f) ++ [.int .u64 (X : Nat)] = (List.range (9 + (j + 1))).map (supV C m f) by rw [← HN.out, show 9 + (j + 1) = (9 + j) + 1 by omega, List.range_succ, List.map_append]; rfl, show 9 + j + 1 = 9 + (j + 1) by omega] at hown
    obtain ⟨_, h2⟩ := id hown
    rcases h2 with ⟨h2, _⟩ | ⟨g2, cap2, cur, rfl, hg, _⟩
    · exact absurd h2 hnil
    · exact ⟨g2, cap2, rfl, Row.of_owns hown, hg⟩
  obtain ⟨g2, cap2, rfl, hR2, hg2⟩ := hfin
  have HF := Lib.hid (And.intro hR2 ((((hK.trans k2).trans k3).trans ka).since hk4 (by simp; omega)))
  clear hown hgrow hnil hblk hk4 hR2
  go_wp2
  go_roundw
  case rel => exact ⟨j + 1, g2, cap2, by omega, by go_num, rfl, HF.out.1, hg2, HF.out.2⟩
  case measure => simp [intOf]; omega
end Go.Proofs.Ytihfejbkojhkaaa
