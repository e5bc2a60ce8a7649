/-
  The document's twin of layout: Super; scullionref1.SameWords. No conditions but what is in memory.
-/
import Derived.Test.YtihfejbkojhkaaaR66
import Derived.Test.YtihfejbkojhkaaaLsup
namespace Go.Proofs.Ytihfejbkojhkaaa
open Go.RowKit Go.Flo Go.Bit
set_option maxRecDepth 100000

/-- On the way: j words. -/
def RsR (C : Cf) (A : Option Addr) (cap : Nat) (m : Nat → Nat) (f : Nat → Nat → Int) (j : Nat) (w : World) (v : Value) (wx : World) : Prop :=
  ∃ g c, v = .slice (some ⟨g, 0, none⟩) j c ∧ Row wx 51 g j c (supV C m f) ∧ w.heap.size < g ∧ Blk wx w.heap.size 25 #[.slice A C.n cap, .int .i64 C.b0, .int .i64 C.b1, .int .i64 C.b2, .int .i64 C.b3, .int .i64 C.r, .int .i64 C.wk, .int .i64 C.lg] ∧ Keep [] w wx
/-- One word more. -/
theorem rs_next {C : Cf} {A : Option Addr} {cap : Nat} {m : Nat → Nat} {f : Nat → Nat → Int} {j g c : Nat} {w wx wa w' : World} {v' x : Value} (_hr : Row wx 51 g j c (supV C m f)) (hg : w.heap.size < g) (hb : Blk wx w.heap.size 25 #[.slice A C.n cap, .int .i64 C.b0, .int .i64 C.b1, .int .i64 C.b2, .int .i64 C.b3, .int .i64 C.r, .int .i64 C.wk, .int .i64 C.lg]) (hk : Keep [] w wx) (ha : Keep [] wx wa)
    (hx : supV C m f j = x) (hown : w'.ownsRow (w.heap.size + 1) 51 1 v' (j + 1) ((List.range j).map (supV C m f) ++ [x])) (hgrow : wa.grownBy w' (Value.slice (some ⟨g, 0, none⟩) j c).ownBlock) (hnil : ¬ v' = .slice none 0 0) : RsR C A cap m f (j + 1) w v' w' := by
  rw [show (List.range j).map (supV C m f) ++ [x] = (List.range (j + 1)).map (supV C m f) by rw [← hx, List.range_succ, List.map_append]; rfl] at hown
  have hk4 : Keep [g] wa w' := Keep.grown hgrow (fun k _ e => by simp [Value.ownBlock] at e; simp [e])
  obtain ⟨_, h2⟩ := id hown
  rcases h2 with ⟨h2, _⟩ | ⟨g2, cap2, cur, rfl, hg2, _⟩
  · exact absurd h2 hnil
  · exact ⟨g2, cap2, rfl, Row.of_owns hown, by omega, (hb.keep ha (by simp)).keep hk4 (by simp; omega), (hk.trans ha).since hk4 (by simp; omega)⟩
theorem rs_start (C : Cf) (A : Option Addr) (cap : Nat) (m : Nat → Nat) (f : Nat → Nat → Int) (w : World) : RsR C A cap m f 4 w (.slice (some ⟨w.heap.size + 1, 0, none⟩) 4 4) ((w.alloc (.cells #[.slice A C.n cap, .int .i64 C.b0, .int .i64 C.b1, .int .i64 C.b2, .int .i64 C.b3, .int .i64 C.r, .int .i64 C.wk, .int .i64 C.lg] 25)).alloc (.cells #[.int .u64 8317131967827831151, .int .u64 (C.r : Nat), .int .u64 (C.wk : Nat), .int .u64 (C.lg : Nat)] 51)) := by
  have k1 : Keep [] w (w.alloc (.cells #[.slice A C.n cap, .int .i64 C.b0, .int .i64 C.b1, .int .i64 C.b2, .int .i64 C.b3, .int .i64 C.r, .int .i64 C.wk, .int .i64 C.lg] 25)) := Keep.alloc _ _
  have k2 : Keep [] (w.alloc (.cells #[.slice A C.n cap, .int .i64 C.b0, .int .i64 C.b1, .int .i64 C.b2, .int .i64 C.b3, .int .i64 C.r, .int .i64 C.wk, .int .i64 C.lg] 25)) ((w.alloc (.cells #[.slice A C.n cap, .int .i64 C.b0, .int .i64 C.b1, .int .i64 C.b2, .int .i64 C.b3, .int .i64 C.r, .int .i64 C.wk, .int .i64 C.lg] 25)).alloc (.cells #[.int .u64 8317131967827831151, .int .u64 (C.r : Nat), .int .u64 (C.wk : Nat), .int .u64 (C.lg : Nat)] 51)) := Keep.alloc _ _
  have hb := Blk.new (w.alloc (.cells #[.slice A C.n cap, .int .i64 C.b0, .int .i64 C.b1, .int .i64 C.b2, .int .i64 C.b3, .int .i64 C.r, .int .i64 C.wk, .int .i64 C.lg] 25)) 51 #[.int .u64 8317131967827831151, .int .u64 (C.r : Nat), .int .u64 (C.wk : Nat), .int .u64 (C.lg : Nat)]
  rw [show (w.alloc (.cells #[.slice A C.n cap, .int .i64 C.b0, .int .i64 C.b1, .int .i64 C.b2, .int .i64 C.b3, .int .i64 C.r, .int .i64 C.wk, .int .i64 C.lg] 25)).heap.size = w.heap.size + 1 by simp] at hb
  refine ⟨w.heap.size + 1, 4, rfl, ⟨_, hb, rfl, by omega, by unfold maxLen; omega, fun i hi => ?_⟩, by omega, (Blk.new w 25 #[.slice A C.n cap, .int .i64 C.b0, .int .i64 C.b1, .int .i64 C.b2, .int .i64 C.b3, .int .i64 C.r, .int .i64 C.wk, .int .i64 C.lg]).keep k2 (by simp), k1.trans k2⟩
  match i, hi with
  | 0, _ => rfl
  | 1, _ => rfl
  | 2, _ => rfl
  | 3, _ => rfl
def RsRel (C : Cf) (A : Option Addr) (cap : Nat) (m : Nat → Nat) (f : Nat → Nat → Int) (w : World) (x y : Value) (wr : World) : Prop :=
  ∃ j : Nat, j ≤ C.n ∧ y = .int .i64 j ∧ RsR C A cap m f (9 + j) w x wr

set_option maxHeartbeats 4000000 in
theorem rsuper_any (w : World) (A : Option Addr) (cap : Nat) (C : Cf) (m : Nat → Nat) (f : Nat → Nat → Int) (ok : C.Ok) (hk : MayKs C.n m f) (h : KRow w A C.n cap m f) :
    Calls Try.prog 37 #[.agg #[.slice A C.n cap, .int .i64 C.b0, .int .i64 C.b1, .int .i64 C.b2, .int .i64 C.b3, .int .i64 C.r, .int .i64 C.wk, .int .i64 C.lg]] w (SupPost C m f w) := by
  have hn := ok.n
  have b0 := ok.b0
  have b1 := ok.b1
  have b2 := ok.b2
  have b3 := ok.b3
  have b4 := ok.r
  have b5 := ok.wk
  have b6 := ok.lg
  have i0 := fun W => idx40 W C.b0 C.b1 C.b2 C.b3
  have i1 := fun W => idx41 W C.b0 C.b1 C.b2 C.b3
  have i2 := fun W => idx42 W C.b0 C.b1 C.b2 C.b3
  have i3 := fun W => idx43 W C.b0 C.b1 C.b2 C.b3
  have HS := Lib.hid (rs_start C A cap m f w)
  have HK := Lib.hid h
  have HKS := Lib.hid hk
  obtain ⟨iu, hiu, hz0, hz1, hz2⟩ := info_of u64parts
  clear h hk
  go_enter Try.func37, Try.ntmps37
  go_upto_region 2 with fail
  refine gen_world (R := RsR C A cap m f 4 w (.slice (some ⟨w.heap.size + 1, 0, none⟩) 4 4)) HS.out ?_
  clear HS
  intro wc hcut

  obtain ⟨g0, c0, e, hr0, hg0, hb0, hk0⟩ := hcut
  injection e with e1 e2 e3
  injection e1 with e1
  injection e1 with e1
  subst e3
  rw [e1]
  clear e1 e2
  generalize wc = v0 at *
  have q1 := (hb0.cell 1).trans (show _ = some (Value.int .i64 C.b0) from rfl)
  have q2 := (hb0.cell 2).trans (show _ = some (Value.int .i64 C.b1) from rfl)
  have q3 := (hb0.cell 3).trans (show _ = some (Value.int .i64 C.b2) from rfl)
  have q4 := (hb0.cell 4).trans (show _ = some (Value.int .i64 C.b3) from rfl)
  go_wp2
  clear q1 q2 q3 q4
  refine wp_loop_rounds 5 ?_
  rw [rounds_succ]
  have HO0 := Lib.hid ((hr0.keep (own := []) (Keep.alloc v0 (.cells #[.int .u64 (C.b0 : Nat)] 51)) (by simp)).toOwns (w.heap.size + 1) hg0)
  have HNW0 := Lib.hid (one_new v0 (.int .u64 (C.b0 : Nat)) 51)
  have hl0 := hr0.lt
  have hs0 := hk0.size
  have HR0 := Lib.hid (And.intro hr0 (And.intro hb0 hk0))
  clear hr0 hb0 hk0
  go_wp2_with (at_builtin; refine wpList_append_own_at _ rfl (.tmp 23) (.tmp 26) 46 rfl (w.heap.size + 1) 51 iu (.int .u64 0) 1 8 Try.underlying46 hiu hz0 hz1 hz2 rfl (by omega) (.slice (some ⟨g0, 0, none⟩) 4 4) 4 ((List.range 4).map (supV C m f)) rfl HO0.out ⟨v0.heap.size, 0, none⟩ 1 1 [.int .u64 (C.b0 : Nat)] rfl ?a0 HNW0.out ?b0 ?d0 ?e0 ?f0 ?_)
  case a0 => rfl
  case b0 => intro u hu; simp at hu; subst hu; rfl
  case d0 => unfold maxLen; omega
  case e0 => omega
  case f0 => simp; omega
  intro v' w' hown hgrow hnil hblk
  obtain ⟨g1, c1, rfl, hr1, hg1, hb1, hk1⟩ := (show RsR C A cap m f 5 w v' w' from rs_next HR0.out.1 hg0 HR0.out.2.1 HR0.out.2.2 (Keep.alloc _ _) (show supV C m f 4 = .int .u64 (C.b0 : Nat) from rfl) hown hgrow hnil)
  generalize w' = v1 at *
  clear hown hgrow hnil hblk HO0 HNW0 HR0 hl0 hs0 hg0
  go_wp2
  rw [rounds_succ]
  have HO1 := Lib.hid ((hr1.keep (own := []) (Keep.alloc v1 (.cells #[.int .u64 (C.b1 : Nat)] 51)) (by simp)).toOwns (w.heap.size + 1) hg1)
  have HNW1 := Lib.hid (one_new v1 (.int .u64 (C.b1 : Nat)) 51)
  have hl1 := hr1.lt
  have hs1 := hk1.size
  have HR1 := Lib.hid (And.intro hr1 (And.intro hb1 hk1))
  clear hr1 hb1 hk1
  go_wp2_with (at_builtin; refine wpList_append_own_at _ rfl (.tmp 23) (.tmp 26) 46 rfl (w.heap.size + 1) 51 iu (.int .u64 0) 1 8 Try.underlying46 hiu hz0 hz1 hz2 rfl (by omega) (.slice (some ⟨g1, 0, none⟩) 5 c1) 5 ((List.range 5).map (supV C m f)) rfl HO1.out ⟨v1.heap.size, 0, none⟩ 1 1 [.int .u64 (C.b1 : Nat)] rfl ?a1 HNW1.out ?b1 ?d1 ?e1 ?f1 ?_)
  case a1 => rfl
  case b1 => intro u hu; simp at hu; subst hu; rfl
  case d1 => unfold maxLen; omega
  case e1 => omega
  case f1 => simp; omega
  intro v' w' hown hgrow hnil hblk
  obtain ⟨g2, c2, rfl, hr2, hg2, hb2, hk2⟩ := (show RsR C A cap m f 6 w v' w' from rs_next HR1.out.1 hg1 HR1.out.2.1 HR1.out.2.2 (Keep.alloc _ _) (show supV C m f 5 = .int .u64 (C.b1 : Nat) from rfl) hown hgrow hnil)
  generalize w' = v2 at *
  clear hown hgrow hnil hblk HO1 HNW1 HR1 hl1 hs1 hg1
  go_wp2
  rw [rounds_succ]
  have HO2 := Lib.hid ((hr2.keep (own := []) (Keep.alloc v2 (.cells #[.int .u64 (C.b2 : Nat)] 51)) (by simp)).toOwns (w.heap.size + 1) hg2)
  have HNW2 := Lib.hid (one_new v2 (.int .u64 (C.b2 : Nat)) 51)
  have hl2 := hr2.lt
  have hs2 := hk2.size
  have HR2 := Lib.hid (And.intro hr2 (And.intro hb2 hk2))
  clear hr2 hb2 hk2
  go_wp2_with (at_builtin; refine wpList_append_own_at _ rfl (.tmp 23) (.tmp 26) 46 rfl (w.heap.size + 1) 51 iu (.int .u64 0) 1 8 Try.underlying46 hiu hz0 hz1 hz2 rfl (by omega) (.slice (some ⟨g2, 0, none⟩) 6 c2) 6 ((List.range 6).map (supV C m f)) rfl HO2.out ⟨v2.heap.size, 0, none⟩ 1 1 [.int .u64 (C.b2 : Nat)] rfl ?a2 HNW2.out ?b2 ?d2 ?e2 ?f2 ?_)
  case a2 => rfl
  case b2 => intro u hu; simp at hu; subst hu; rfl
  case d2 => unfold maxLen; omega
  case e2 => omega
  case f2 => simp; omega
  intro v' w' hown hgrow hnil hblk
  obtain ⟨g3, c3, rfl, hr3, hg3, hb3, hk3⟩ := (show RsR C A cap m f 7 w v' w' from rs_next HR2.out.1 hg2 HR2.out.2.1 HR2.out.2.2 (Keep.alloc _ _) (show supV C m f 6 = .int .u64 (C.b2 : Nat) from rfl) hown hgrow hnil)
  generalize w' = v3 at *
  clear hown hgrow hnil hblk HO2 HNW2 HR2 hl2 hs2 hg2
  go_wp2
  rw [rounds_succ]
  have HO3 := Lib.hid ((hr3.keep (own := []) (Keep.alloc v3 (.cells #[.int .u64 (C.b3 : Nat)] 51)) (by simp)).toOwns (w.heap.size + 1) hg3)
  have HNW3 := Lib.hid (one_new v3 (.int .u64 (C.b3 : Nat)) 51)
  have hl3 := hr3.lt
  have hs3 := hk3.size
  have HR3 := Lib.hid (And.intro hr3 (And.intro hb3 hk3))
  clear hr3 hb3 hk3
  go_wp2_with (at_builtin; refine wpList_append_own_at _ rfl (.tmp 23) (.tmp 26) 46 rfl (w.heap.size + 1) 51 iu (.int .u64 0) 1 8 Try.underlying46 hiu hz0 hz1 hz2 rfl (by omega) (.slice (some ⟨g3, 0, none⟩) 7 c3) 7 ((List.range 7).map (supV C m f)) rfl HO3.out ⟨v3.heap.size, 0, none⟩ 1 1 [.int .u64 (C.b3 : Nat)] rfl ?a3 HNW3.out ?b3 ?d3 ?e3 ?f3 ?_)
  case a3 => rfl
  case b3 => intro u hu; simp at hu; subst hu; rfl
  case d3 => unfold maxLen; omega
  case e3 => omega
  case f3 => simp; omega
  intro v' w' hown hgrow hnil hblk
  obtain ⟨g4, c4, rfl, hr4, hg4, hb4, hk4⟩ := (show RsR C A cap m f 8 w v' w' from rs_next HR3.out.1 hg3 HR3.out.2.1 HR3.out.2.2 (Keep.alloc _ _) (show supV C m f 7 = .int .u64 (C.b3 : Nat) from rfl) hown hgrow hnil)
  generalize w' = v4 at *
  clear hown hgrow hnil hblk HO3 HNW3 HR3 hl3 hs3 hg3
  go_wp2
  rw [rounds_succ]
  have q0 := (hb4.cell 0).trans (show _ = some (Value.slice A C.n cap) from rfl)
  have HO4 := Lib.hid ((hr4.keep (own := []) (Keep.alloc v4 (.cells #[.int .u64 (C.n : Nat)] 51)) (by simp)).toOwns (w.heap.size + 1) hg4)
  have HNW4 := Lib.hid (one_new v4 (.int .u64 (C.n : Nat)) 51)
  have hl4 := hr4.lt
  have hs4 := hk4.size
  have HR4 := Lib.hid (And.intro hr4 (And.intro hb4 hk4))
  clear hr4 hb4 hk4 i0 i1 i2 i3
  go_wp2_with (at_builtin; refine wpList_append_own_at _ rfl (.tmp 29) (.tmp 34) 46 rfl (w.heap.size + 1) 51 iu (.int .u64 0) 1 8 Try.underlying46 hiu hz0 hz1 hz2 rfl (by omega) (.slice (some ⟨g4, 0, none⟩) 8 c4) 8 ((List.range 8).map (supV C m f)) rfl HO4.out ⟨v4.heap.size, 0, none⟩ 1 1 [.int .u64 (C.n : Nat)] rfl ?a4 HNW4.out ?b4 ?d4 ?e4 ?f4 ?_)
  case a4 => rfl
  case b4 => intro u hu; simp at hu; subst hu; rfl
  case d4 => unfold maxLen; omega
  case e4 => omega
  case f4 => simp; omega
  intro v' w' hown hgrow hnil hblk
  obtain ⟨g5, c5, rfl, hr5, hg5, hb5, hk5⟩ := (show RsR C A cap m f 9 w v' w' from rs_next HR4.out.1 hg4 HR4.out.2.1 HR4.out.2.2 (Keep.alloc _ _) (show supV C m f 8 = .int .u64 (C.n : Nat) from rfl) hown hgrow hnil)
  generalize w' = v5 at *
  clear hown hgrow hnil hblk HO4 HNW4 HR4 hl4 hs4 hg4 q0
  have q0 := (hb5.cell 0).trans (show _ = some (Value.slice A C.n cap) from rfl)
  have HR5 := Lib.hid (And.intro hr5 (And.intro hb5 hk5))
  clear hr5 hb5 hk5
  go_wp2
  clear q0
  go_loopw [3, 39] (fun x y wr => RsRel C A cap m f w x y wr) (fun _ y _ => C.n - (intOf y).toNat)
  case atStart => exact ⟨0, by omega, rfl, g5, c5, rfl, HR5.out.1, hg5, HR5.out.2.1, HR5.out.2.2⟩
  case round =>
  obtain ⟨j, hj, rfl, gr, cr, rfl, hr, hgr, hbk, hK⟩ := hrel
  by_cases hlt : j < C.n
  case neg =>
    obtain rfl : j = C.n := by omega
    go_wp2
    go_ret
    exact ⟨gr, cr, rfl, hr, by omega, hK⟩
  obtain ⟨b, oo, rfl, hbb, hc⟩ := (HK.out.keep hK).cells (by omega)
  obtain ⟨A', c', cj, hI⟩ := hc j hlt
  have hmk := HKS.out.2.2 j hlt
  have k2 : Keep [] wr (wr.alloc (.cells #[.slice A' (m j) c'] 60)) := Keep.alloc _ _
  have hkw := rkindWord_yes _ A' (m j) c' (f j) (hI.keep k2) hmk
  have HN := Lib.hid (show supV C m f (9 + j) = .int .u64 (kw (m j) (f j) : Nat) by unfold supV; rw [supW_kind])
  generalize kw (m j) (f j) = X at *
  have HR := Lib.hid (And.intro hr (And.intro hbk hK))
  have hgl := hr.lt
  have hrc := hr.cap_le
  have hsz0 := hK.size
  clear hc hI hmk hr hbk hK
  go_wp2_with fail
  (with_reducible refine hkw.mono ?_)
  rintro e w3 ⟨rfl, k3⟩
  have ka : Keep [] w3 (w3.alloc (.cells #[.int .u64 (X : Nat)] 51)) := Keep.alloc _ _
  have kall := (k2.trans k3).trans ka
  have HO := Lib.hid ((HR.out.1.keep kall (by simp)).toOwns (w.heap.size + 1) hgr)
  have HNW := Lib.hid (one_new w3 (.int .u64 (X : Nat)) 51)
  have hsz3 : wr.heap.size ≤ w3.heap.size := (k2.trans k3).size
  go_wp2_with (at_builtin; refine wpList_append_own_at _ rfl (.tmp 43) (.tmp 46) 46 rfl (w.heap.size + 1) 51 iu (.int .u64 0) 1 8 Try.underlying46 hiu hz0 hz1 hz2 rfl (by omega) (.slice (some ⟨gr, 0, none⟩) (9 + j) cr) (9 + j) ((List.range (9 + j)).map (supV C m f)) rfl HO.out ⟨w3.heap.size, 0, none⟩ 1 1 [.int .u64 (X : Nat)] rfl ?a9 HNW.out ?b9 ?d9 ?e9 ?f9 ?_)
  case a9 => rfl
  case b9 => intro u hu; simp at hu; subst hu; rfl
  case d9 => unfold maxLen; omega
  case e9 => omega
  case f9 => simp; omega
  intro v' w' hown hgrow hnil hblk
  have hfin : RsR C _ cap m f (9 + (j + 1)) w v' w' := rs_next HR.out.1 hgr HR.out.2.1 HR.out.2.2 kall HN.out hown hgrow hnil
  obtain ⟨g2, c2, rfl, hr2, hg2, hb2, hk2⟩ := hfin
  have HF := Lib.hid (And.intro hr2 (And.intro hb2 hk2))
  clear hown hgrow hnil hblk HO HNW HR hr2 hb2 hk2
  go_wp2
  go_roundw
  case rel => first | (exact ⟨j + 1, by omega, by go_num, g2, c2, rfl, HF.out.1, hg2, HF.out.2.1, HF.out.2.2⟩) | (refine ⟨_, ?_, rfl⟩; exact ⟨j + 1, by omega, by go_num, g2, c2, rfl, HF.out.1, hg2, HF.out.2.1, HF.out.2.2⟩) | (refine ⟨_, _, ?_, rfl, rfl⟩; exact ⟨j + 1, by omega, by go_num, g2, c2, rfl, HF.out.1, hg2, HF.out.2.1, HF.out.2.2⟩) | (refine ⟨_, _, _, ?_, rfl, rfl, rfl⟩; exact ⟨j + 1, by omega, by go_num, g2, c2, rfl, HF.out.1, hg2, HF.out.2.1, HF.out.2.2⟩) | (refine ⟨_, _, _, _, ?_, rfl, rfl, rfl, rfl⟩; exact ⟨j + 1, by omega, by go_num, g2, c2, rfl, HF.out.1, hg2, HF.out.2.1, HF.out.2.2⟩) | (refine ⟨_, _, _, _, _, ?_, rfl, rfl, rfl, rfl, rfl⟩; exact ⟨j + 1, by omega, by go_num, g2, c2, rfl, HF.out.1, hg2, HF.out.2.1, HF.out.2.2⟩) | (trace_state; sorry)
  case measure => simp [intOf]; omega

set_option maxHeartbeats 1000000 in
theorem same_words (w : World) (g c g' c' k : Nat) (F : Nat → Nat) (hk : k ≤ 65536) (ha : Row w 51 g k c (fun j => .int .u64 (F j : Nat))) (hb : Row w 51 g' k c' (fun j => .int .u64 (F j : Nat))) :
    Calls Try.prog 36 #[.slice (some ⟨g, 0, none⟩) k c, .slice (some ⟨g', 0, none⟩) k c'] w fun e w' => e = .returned (.bool true) ∧ Dr w w' := by
  have HA := Lib.hid (fun (j : Nat) (hj : j < k) => (ha.cell hj : w.cell? ⟨g, j, none⟩ = some (.int .u64 (F j : Nat))))
  have HB := Lib.hid (fun (j : Nat) (hj : j < k) => (hb.cell hj : w.cell? ⟨g', j, none⟩ = some (.int .u64 (F j : Nat))))
  clear ha hb
  go_enter Try.func36, Try.ntmps36
  go_wp2
  go_loopw [13] (fun x wr => ∃ j : Nat, j ≤ k ∧ x = .int .i64 j ∧ Dr w wr) (fun x _ => k - (intOf x).toNat)
  case atStart => exact ⟨0, by omega, rfl, Dr.refl _⟩
  case round =>
    obtain ⟨j, hj, rfl, hd⟩ := hrel
    obtain ⟨m, rfl⟩ := hd
    by_cases hlt : j < k
    · have ca := HA.out j hlt
      have cb := HB.out j hlt
      obtain ⟨y, hy⟩ : ∃ y : Int, y = ((F j : Nat) : Int) := ⟨_, rfl⟩
      rw [← hy] at ca cb
      clear hy
      go_wp2
      go_quiet (fail)
      go_wp2
      go_roundw
      case rel => exact ⟨j + 1, by omega, by go_num, Dr.drewN _ _⟩
      case measure => simp [intOf]; omega
    · have hjk : j = k := by omega
      subst hjk
      go_wp2
      go_ret
      exact ⟨rfl, Dr.drewN _ _⟩
end Go.Proofs.Ytihfejbkojhkaaa
