/-
  GraphMany walked: nodes in a row, each of which refers to the next. No conditions.
-/
import Derived.Test.YtigclopkoolocaaGd12
namespace Go.Flo
open Go.RowKit Go.Bit

/-- A row's fields, nodes, graph: each node refers to the next. -/
def chF (n i : Nat) : List Val := if i + 1 < n then [⟨3, 0, 0, 0, ((i + 1 : Nat) : Int)⟩] else []
def chL (n j : Nat) : List Nod := (List.range j).map fun i => ⟨0, chF n i⟩
def chG (n : Nat) : Gr := ⟨chL n n, [0], []⟩
theorem chL_len (n j : Nat) : (chL n j).length = j := by unfold chL; simp
theorem chL_succ (n j : Nat) : chL n (j + 1) = chL n j ++ [⟨0, chF n j⟩] := by unfold chL; rw [List.range_succ, List.map_append]; rfl
theorem chG_n (n : Nat) : (chG n).n = n := chL_len n n
theorem chG_at {n i : Nat} (h : i < n) : (chG n).at i = ⟨0, chF n i⟩ := by
  unfold chG Gr.at chL
  rw [List.getD_eq_getElem?_getD, List.getElem?_map, List.getElem?_range h]
  rfl
theorem chG_may {n : Nat} (h0 : 0 < n) (h : n ≤ 4096) : MayG (chG n) := by
  refine ⟨by rw [chG_n]; exact h, ?_, ?_, ?_⟩
  · intro r hr
    have : r = 0 := by simpa [chG] using hr
    subst this
    rw [chG_n]
    unfold MayI
    omega
  · intro r hr
    simp [chG] at hr
  · intro x hx v hv
    obtain ⟨i, hi, rfl⟩ := List.mem_map.1 hx
    have hi := List.mem_range.1 hi
    rw [chG_n]
    dsimp only at hv
    unfold chF at hv
    split at hv
    · have : v = _ := List.mem_singleton.1 hv
      subst this
      unfold MayV
      dsimp only
      omega
    · cases hv
theorem chG_not {n : Nat} (h : 4096 < n) : ¬ MayG (chG n) := fun e => by
  have := e.1
  rw [chG_n] at this
  omega
theorem chG_slim {n : Nat} : Slim (chG n) := by
  refine ⟨by show 1 ≤ 65536; omega, by show 0 ≤ 65536; omega, fun i hi => ?_⟩
  rw [chG_n] at hi
  rw [chG_at hi]
  dsimp only
  unfold chF
  split
  · show 1 ≤ 65536; omega
  · show 0 ≤ 65536; omega
theorem chG_len {n : Nat} (h0 : 0 < n) : (trimG (chG n)).nodes.length = n := by
  show (List.map _ (orderG (chG n) [0])).length = n
  rw [List.length_map]
  have := chain_len (g := chG n) (fun i hi => by
    rw [chG_n] at hi
    rw [chG_at (by omega)]
    dsimp only
    unfold chF
    rw [if_pos hi]
    exact mem_refsOf.2 ⟨_, List.mem_singleton.2 rfl, rfl, rfl⟩) (by rw [chG_n]; exact h0)
  rw [this, chG_n]
theorem owns_blk {w : World} {B g n size : Nat} {t : TypeId} {cs : Array Value} (h : Blk w g t cs) (hb : B ≤ g) (hs : cs.size = n * size) (hm : n ≤ maxLen) : w.ownsRow B t size (.slice (some ⟨g, 0, none⟩) n n) n cs.toList :=
  ⟨by simpa using hs, Or.inr ⟨g, n, cs, rfl, hb, h, Nat.le_refl _, hm, hs, by rw [← hs]; exact List.take_of_length_le (by simp)⟩⟩
theorem trimE_slim {g : Gr} (h : Slim g) : Slim (trimE g) := by
  unfold trimE
  split
  · refine ⟨?_, ?_, fun i hi => ?_⟩
    · show (g.roots.map _).length ≤ _; rw [List.length_map]; exact h.1
    · show (g.weaks.map _).length ≤ _; rw [List.length_map]; exact h.2.1
    · have hn : (trimG g).n = (orderG g g.roots).length := trimR_n _ _
      rw [hn] at hi
      have e : (trimG g).at i = _ := trimR_at g (orderG g g.roots) hi
      rw [e]
      dsimp only
      rw [List.length_map]
      exact h.2.2 _ ((orderG_fine g g.roots).2 _ (List.getElem_mem hi))
  · exact ⟨by show 0 ≤ _; omega, by show 0 ≤ _; omega, fun i hi => by simp [Gr.n] at hi⟩
end Go.Flo
namespace Go.Proofs.Ytigclopkoolocaa
open Go.RowKit Go.Flo Go.Bit
set_option maxRecDepth 100000

set_option maxHeartbeats 20000000 in
theorem walk_gmany (w : World) (a : Int) : Calls Try.prog 4 #[.int .i64 a] w fun e w' => e = .returned (.bool true) ∧ Keep [] w w' := by
  obtain ⟨u, hu⟩ : ∃ u : Nat, IntKind.u64.wrap a = u := ⟨(IntKind.u64.wrap a).toNat, by rw [IntKind.wrap_u64]; omega⟩
  have hu2 : u < 18446744073709551616 := by rw [IntKind.wrap_u64] at hu; omega
  have AW := Lib.hid awake12_any
  have RF := Lib.hid ref_any
  go_enter Try.func4, Try.ntmps4
  go_upto_region 2 with fail
  obtain ⟨N, hN⟩ : ∃ N : Nat, (4090 + (u : Int) % 10) = N := ⟨4090 + u % 10, by omega⟩
  have hN0 : 4090 ≤ N := by omega
  have hN1 : N ≤ 4099 := by omega
  rw [hN]
  clear hN hu hu2
  have ka : Keep [] w (w.alloc (.cells #[.int .i64 0] 3)) := Keep.alloc _ _
  have ba := Blk.new w 3 #[.int .i64 0]
  obtain ⟨wa, hwa⟩ : ∃ wa, wa = w.alloc (.cells #[.int .i64 0] 3) := ⟨_, rfl⟩
  have hza : wa.heap.size = w.heap.size + 1 := by rw [hwa]; simp
  rw [← hwa] at ka ba
  have kb : Keep [] wa (wa.alloc (.cells #[.slice none 0 0, .slice (some ⟨w.heap.size, 0, none⟩) 1 1, .slice none 0 0] 25)) := Keep.alloc _ _
  have bb := Blk.new wa 25 #[.slice none 0 0, .slice (some ⟨w.heap.size, 0, none⟩) 1 1, .slice none 0 0]
  obtain ⟨wb, hwb⟩ : ∃ wb, wb = wa.alloc (.cells #[.slice none 0 0, .slice (some ⟨w.heap.size, 0, none⟩) 1 1, .slice none 0 0] 25) := ⟨_, rfl⟩
  have hzbe : wb.heap.size = w.heap.size + 1 + 1 := by rw [hwb]; simp [hza]
  rw [← hwb] at kb bb
  rw [hza] at bb
  rw [hwa] at hwb
  have ba := ba.keep kb (by simp)
  have hzb : w.heap.size + 1 < wb.heap.size := bb.lt
  have HB := Lib.hid (And.intro ba (And.intro bb (ka.trans kb)))
  clear ka kb ba bb hwa hza
  obtain ⟨O, hO⟩ : ∃ O, w.heap.size + 1 = O := ⟨_, rfl⟩
  rw [hO] at HB hzb hzbe
  have HZB := Lib.hid hzbe
  clear hzbe
  have HO1 := Lib.hid hO
  go_upto_region 3 with fail
  rw [← hwb]
  clear hwb hO
  go_wp2
  go_loopw [15] (fun y wr => ∃ (j : Nat) (v0 : Value), j ≤ N ∧ y = .int .i64 j ∧ Blk wr O 25 #[v0, .slice (some ⟨w.heap.size, 0, none⟩) 1 1, .slice none 0 0] ∧ NodOwn wr (O + 1) 35 37 v0 (chL N j) ∧ Keep [O] wb wr) (fun y _ => N - (RowKit.intOf y).toNat)
  case atStart => exact ⟨0, _, by omega, rfl, HB.out.2.1, NodOwn.nil _ _ _ _, Keep.refl _ _⟩
  case round =>
  obtain ⟨j, v0, hj, rfl, hbO, hno, hK⟩ := hrel
  by_cases hlt : j < N
  case pos =>
    have hrz := hK.size
    have HSU := Lib.hid (chL_succ N j)
    have HLL := Lib.hid (chL_len N j)
    have k1 : Keep [] wr (wr.alloc (.cells #[.int .i64 0, .slice none 0 0] 35)) := Keep.alloc _ _
    have b1 := Blk.new wr 35 #[.int .i64 0, .slice none 0 0]
    obtain ⟨X, hX⟩ : ∃ X, wr.heap.size = X := ⟨_, rfl⟩
    obtain ⟨w1, hw1⟩ : ∃ w1, w1 = wr.alloc (.cells #[.int .i64 0, .slice none 0 0] 35) := ⟨_, rfl⟩
    have hw1z : w1.heap.size = X + 1 := by rw [hw1, ← hX]; simp
    rw [← hw1] at k1 b1
    rw [hX] at b1 hrz
    have hOX : O < X := by omega
    have hji : (j : Int) < N := by omega
    have key : ∀ (w4 : World) (vf : Value), Keep [] wr w4 → Blk w4 X 35 #[.int .i64 0, vf] → w4.ownsRow (O + 1) 37 5 vf (chF N j).length (rowV (chF N j)) →
        Blk w4 O 25 #[v0, .slice (some ⟨w.heap.size, 0, none⟩) 1 1, .slice none 0 0] ∧ NodOwn w4 (O + 1) 35 37 v0 (chL N j) ∧ Keep [O] wb w4 := fun w4 vf k4 _ _ => by
      refine ⟨hbO.keep k4 (by simp), ?_, hK.trans k4.of_nil⟩
      obtain ⟨vs, n1, n2⟩ := hno
      exact ⟨vs, owns_kept n1 k4, fun i hi => owns_kept (n2 i hi) k4⟩
    have HK1 := Lib.hid k1
    have HX := Lib.hid hX
    by_cases hjn : j + 1 < N
    · have hjn' : (j : Int) + 1 < N := by omega
      have hcf : chF N j = [⟨3, 0, 0, 0, ((j + 1 : Nat) : Int)⟩] := if_pos hjn
      have href := RF.out ((j : Int) + 1) w1
      have HW1 := Lib.hid hw1
      clear hbO hno hK k1 hw1 hX hjn
      go_upto_region 8 with fail
      rw [← HW1.out, HX.out]
      go_wp2_with fail
      (with_reducible refine href.mono ?_)
      rintro e w2 ⟨rfl, k2⟩
      obtain ⟨fb, hfb⟩ : ∃ fb, w2.heap.size = fb := ⟨_, rfl⟩
      have hXf : X < fb := by have := k2.size; omega
      have bX2 := b1.keep k2 (by simp)
      have cX := (bX2.cell 1).trans (show _ = some (Value.slice none 0 0) from rfl)
      have fX := bX2.frozen 1
      have kset := Keep.setCell (own := [X]) w2 ⟨X, 1, none⟩ (by simp) (.slice (some ⟨fb, 0, none⟩) 1 1)
      obtain ⟨ws, hws⟩ : ∃ ws, ws = w2.setCell ⟨X, 1, none⟩ (.slice (some ⟨fb, 0, none⟩) 1 1) := ⟨_, rfl⟩
      have hsz : ws.heap.size = fb := by rw [hws]; simp [World.setCell, hfb]
      have bXs : Blk ws X 35 #[.int .i64 0, .slice (some ⟨fb, 0, none⟩) 1 1] := by rw [hws]; exact bX2.set_ 1 _
      rw [← hws] at kset
      have ks : Keep [] wr ws := (HK1.out.trans k2).since kset (by simp; rw [HX.out]; exact Nat.le_refl _)
      have kw : Keep [] ws (ws.alloc (.cells #[.int .i64 3, .int .i64 0, .int .u64 0, .int .u64 0, .int .i64 ((j : Int) + 1)] 37)) := Keep.alloc _ _
      have bF4 := Blk.new ws 37 #[.int .i64 3, .int .i64 0, .int .u64 0, .int .u64 0, .int .i64 ((j : Int) + 1)]
      rw [hsz] at bF4
      obtain ⟨w4, hw4⟩ : ∃ w4, w4 = ws.alloc (.cells #[.int .i64 3, .int .i64 0, .int .u64 0, .int .u64 0, .int .i64 ((j : Int) + 1)] 37) := ⟨_, rfl⟩
      rw [← hw4] at kw bF4
      have of4 : w4.ownsRow (O + 1) 37 5 (.slice (some ⟨fb, 0, none⟩) 1 1) (chF N j).length (rowV (chF N j)) := by
        rw [hcf]
        have := owns_blk (B := O + 1) (n := 1) (size := 5) bF4 (by omega) rfl (by unfold maxLen; omega)
        exact this
      have bX4 := bXs.keep kw (by simp)
      have HKK := Lib.hid (key w4 _ (ks.trans kw) bX4 of4)
      have H4 := Lib.hid (And.intro bX4 of4)
      have HW4 := Lib.hid (show w4 = (w2.setCell ⟨X, 1, none⟩ (.slice (some ⟨fb, 0, none⟩) 1 1)).alloc (.cells #[.int .i64 3, .int .i64 0, .int .u64 0, .int .u64 0, .int .i64 ((j : Int) + 1)] 37) by rw [hw4, hws])
      clear key k2 kset hws hsz bXs ks kw bF4 hw4 of4 bX4 bX2 href b1 hcf
      go_upto_region 9 with fail
      rw [← HW4.out]
      clear cX fX
      obtain ⟨vs, n1, n2⟩ := HKK.out.2.1
      rw [HLL.out] at n1 n2
      have o0 := (HKK.out.1.cell 0).trans (show _ = some v0 from rfl)
      have xx0 := (H4.out.1.cell 0).trans (show _ = some (Value.int .i64 0) from rfl)
      have xx1 := (H4.out.1.cell 1).trans (show _ = some (.slice (some ⟨fb, 0, none⟩) 1 1) from rfl)
      have kal : Keep [] w4 (w4.alloc (.cells #[.int .i64 0, .slice (some ⟨fb, 0, none⟩) 1 1] 35)) := Keep.alloc _ _
      have HNW := Lib.hid (two_new7 w4 0 (.slice (some ⟨fb, 0, none⟩) 1 1) 35)
      have HOW := Lib.hid (owns_kept n1 kal)
      have H12 := Lib.hid (And.intro (HKK.out.1.keep kal (by simp)) (And.intro (fun i hi => owns_kept (n2 i hi) kal) (And.intro (owns_kept H4.out.2 kal) (HKK.out.2.2.trans kal.of_nil))))
      have hsO : O + 1 ≤ w4.heap.size := by have := HKK.out.2.2.size; omega
      clear n1 n2 kal
      obtain ⟨ii, hii, hi0, hi1, hi2⟩ := info_of nodparts
      go_wp2_with (at_builtin; refine wpList_append_own_at _ rfl (.tmp 29) (.tmp 31) 22 rfl (O + 1) 35 ii (.agg #[.int .i64 0, .slice none 0 0]) 2 32 Try.underlying22 hii hi0 hi1 hi2 rfl (by omega) v0 j (nodC j (fun i => ((chL N j).getD i nod0).K) vs) rfl HOW.out ⟨w4.heap.size, 0, none⟩ 1 1 [.int .i64 0, .slice (some ⟨fb, 0, none⟩) 1 1] rfl ?c1 HNW.out ?c3 ?c4 ?c5 ?c6 ?_)
      (try (case c1 => rfl))
      (case c3 => first | exact ⟨rfl, rfl⟩ | (intro z hz; simp at hz; rcases hz with rfl | rfl <;> rfl))
      (case c4 => unfold maxLen; omega)
      (case c5 => omega)
      (case c6 => first | omega | (simp; omega))
      intro v' w'' hown2 hgrow _ _
      have hb5 := grown_blk H12.out.1 (by omega) HOW.out hgrow
      have hnt : (37 : TypeId) ≠ 35 := by decide
      have hk5 : Keep [O] wb w'' := H12.out.2.2.2.later (own' := v0.ownBlock.toList) (Keep.grown hgrow (fun k _ e => by rw [e]; simp)) (fun x hx => by
        have := (HOW.out.lt x (by simpa using hx)).1; have := HZB.out
        exact Or.inl (by omega))
      have hn5 : NodOwn w'' (O + 1) 35 37 v' (chL N j ++ [⟨0, chF N j⟩]) := NodOwn.snoc (vs := vs) HLL.out hown2 (fun i hi => World.ownsRow.kept (H12.out.2.1 i hi) hgrow (owns_apart hnt (H12.out.2.1 i hi) HOW.out)) (World.ownsRow.kept H12.out.2.2.1 hgrow (owns_apart hnt H12.out.2.2.1 HOW.out))
      obtain ⟨A9, c9, rfl⟩ := owns_sl hown2
      have og0 := (hb5.cell 0).trans (show _ = some v0 from rfl)
      have fg0 := hb5.frozen 0
      have H6 := Lib.hid (And.intro (hb5.set_ 0 (.slice A9 (j + 1) c9)) (And.intro (hn5.set (a := ⟨O, 0, none⟩) (by show O < O + 1; omega) (.slice A9 (j + 1) c9)) (hk5.trans (Keep.setCell (own := [O]) w'' ⟨O, 0, none⟩ (by simp) (.slice A9 (j + 1) c9)))))
      rw [← HSU.out] at H6
      clear hown2 hb5 hk5 hn5 hgrow xx0 xx1 o0
      go_wp2
      go_roundw
      (case rel => exact ⟨j + 1, .slice A9 (j + 1) c9, by omega, by go_num, H6.out.1, H6.out.2.1, H6.out.2.2⟩)
      (case measure => simp [RowKit.intOf]; omega)
    · have hjn' : ¬ (j : Int) + 1 < N := by omega
      have hcf : chF N j = [] := if_neg hjn
      have HKK := Lib.hid (key w1 (.slice none 0 0) HK1.out b1 (by rw [hcf]; exact ⟨rfl, Or.inl ⟨rfl, rfl⟩⟩))
      have H4 := Lib.hid (show Blk w1 X 35 #[.int .i64 0, .slice none 0 0] ∧ w1.ownsRow (O + 1) 37 5 (.slice none 0 0) (chF N j).length (rowV (chF N j)) from ⟨b1, by rw [hcf]; exact ⟨rfl, Or.inl ⟨rfl, rfl⟩⟩⟩)
      have HW1 := Lib.hid hw1
      clear key b1 hcf hbO hno hK k1 hw1 hX hjn hw1z
      go_upto_region 9 with fail
      rw [← HW1.out, HX.out]
      obtain ⟨w4, hw4⟩ : ∃ w4, w4 = w1 := ⟨_, rfl⟩
      rw [← hw4] at HKK H4 ⊢
      clear hw4
      obtain ⟨vs, n1, n2⟩ := HKK.out.2.1
      rw [HLL.out] at n1 n2
      have o0 := (HKK.out.1.cell 0).trans (show _ = some v0 from rfl)
      have xx0 := (H4.out.1.cell 0).trans (show _ = some (Value.int .i64 0) from rfl)
      have xx1 := (H4.out.1.cell 1).trans (show _ = some (.slice none 0 0) from rfl)
      have kal : Keep [] w4 (w4.alloc (.cells #[.int .i64 0, .slice none 0 0] 35)) := Keep.alloc _ _
      have HNW := Lib.hid (two_new7 w4 0 (.slice none 0 0) 35)
      have HOW := Lib.hid (owns_kept n1 kal)
      have H12 := Lib.hid (And.intro (HKK.out.1.keep kal (by simp)) (And.intro (fun i hi => owns_kept (n2 i hi) kal) (And.intro (owns_kept H4.out.2 kal) (HKK.out.2.2.trans kal.of_nil))))
      have hsO : O + 1 ≤ w4.heap.size := by have := HKK.out.2.2.size; omega
      clear n1 n2 kal
      obtain ⟨ii, hii, hi0, hi1, hi2⟩ := info_of nodparts
      go_wp2_with (at_builtin; refine wpList_append_own_at _ rfl (.tmp 29) (.tmp 31) 22 rfl (O + 1) 35 ii (.agg #[.int .i64 0, .slice none 0 0]) 2 32 Try.underlying22 hii hi0 hi1 hi2 rfl (by omega) v0 j (nodC j (fun i => ((chL N j).getD i nod0).K) vs) rfl HOW.out ⟨w4.heap.size, 0, none⟩ 1 1 [.int .i64 0, .slice none 0 0] rfl ?d1 HNW.out ?d3 ?d4 ?d5 ?d6 ?_)
      (try (case d1 => rfl))
      (case d3 => first | exact ⟨rfl, rfl⟩ | (intro z hz; simp at hz; rcases hz with rfl | rfl <;> rfl))
      (case d4 => unfold maxLen; omega)
      (case d5 => omega)
      (case d6 => first | omega | (simp; omega))
      intro v' w'' hown2 hgrow _ _
      have hb5 := grown_blk H12.out.1 (by omega) HOW.out hgrow
      have hnt : (37 : TypeId) ≠ 35 := by decide
      have hk5 : Keep [O] wb w'' := H12.out.2.2.2.later (own' := v0.ownBlock.toList) (Keep.grown hgrow (fun k _ e => by rw [e]; simp)) (fun x hx => by
        have := (HOW.out.lt x (by simpa using hx)).1; have := HZB.out
        exact Or.inl (by omega))
      have hn5 : NodOwn w'' (O + 1) 35 37 v' (chL N j ++ [⟨0, chF N j⟩]) := NodOwn.snoc (vs := vs) HLL.out hown2 (fun i hi => World.ownsRow.kept (H12.out.2.1 i hi) hgrow (owns_apart hnt (H12.out.2.1 i hi) HOW.out)) (World.ownsRow.kept H12.out.2.2.1 hgrow (owns_apart hnt H12.out.2.2.1 HOW.out))
      obtain ⟨A9, c9, rfl⟩ := owns_sl hown2
      have og0 := (hb5.cell 0).trans (show _ = some v0 from rfl)
      have fg0 := hb5.frozen 0
      have H6 := Lib.hid (And.intro (hb5.set_ 0 (.slice A9 (j + 1) c9)) (And.intro (hn5.set (a := ⟨O, 0, none⟩) (by show O < O + 1; omega) (.slice A9 (j + 1) c9)) (hk5.trans (Keep.setCell (own := [O]) w'' ⟨O, 0, none⟩ (by simp) (.slice A9 (j + 1) c9)))))
      rw [← HSU.out] at H6
      clear hown2 hb5 hk5 hn5 hgrow xx0 xx1 o0
      go_wp2
      go_roundw
      (case rel => exact ⟨j + 1, .slice A9 (j + 1) c9, by omega, by go_num, H6.out.1, H6.out.2.1, H6.out.2.2⟩)
      (case measure => simp [RowKit.intOf]; omega)
  obtain rfl : j = N := by omega
  have hk := HB.out.2.2.since hK (by simp; have := HO1.out; omega)
  have hn6 := nod_done hno
  rw [chL_len] at hn6
  obtain ⟨A9, c9, rfl, hnl⟩ := hn6
  have hb0 := HB.out.1.keep hK (by simp; have := HO1.out; omega)
  have hr : IntL wr (some ⟨w.heap.size, 0, none⟩) 1 (chG j).roots := ⟨by show 1 ≤ 1; omega, fun e => (by cases e), by omega, fun _ => ⟨_, 0, rfl, hb0.lt, fun i hi => by
    have hi2 : i < 1 := hi
    obtain rfl : i = 0 := by omega
    exact hb0.cell 0⟩⟩
  have hg : GIn wr A9 (some ⟨w.heap.size, 0, none⟩) none c9 1 0 (chG j) := ⟨hnl, hr, IntL.nil _⟩
  have hf := fun W (hk : Keep [] wr W) => And.intro (((hbO.keep hk (by simp)).cell 0).trans (show _ = some (Value.slice A9 j c9) from rfl)) (And.intro (((hbO.keep hk (by simp)).cell 1).trans (show _ = some (Value.slice (some ⟨w.heap.size, 0, none⟩) 1 1) from rfl)) (((hbO.keep hk (by simp)).cell 2).trans (show _ = some (Value.slice none 0 0) from rfl)))
  have hc0 : (chG j).nodes.length = j := chL_len j j
  have tr := trim_any wr A9 (some ⟨w.heap.size, 0, none⟩) none c9 1 0 (chG j) hg chG_slim
  have m1 := fun W (hk : Keep [] wr W) => mayg_any W A9 (some ⟨w.heap.size, 0, none⟩) none c9 1 0 (chG j) (hg.keep hk)
  have al := fun W B0 B1 B2 d0 d1 d2 (hk : Keep [] wr W) (h' : GIn W B0 B1 B2 d0 d1 d2 (trimE (chG j))) => alike_any W A9 (some ⟨w.heap.size, 0, none⟩) none B0 B1 B2 c9 1 0 d0 d1 d2 (chG j) (trimE (chG j)) (hg.keep hk) h' chG_slim (trimE_slim chG_slim)
  have r1 := fun W A c (hk : Keep [] wr W) (hl : IntL W A c [0]) => reach_any W A9 (some ⟨w.heap.size, 0, none⟩) none A c9 1 0 c (chG j) [0] (hg.keep hk) hl
  have hnc := hnl.nc
  have hnm := hnl.cap
  rw [chL_len] at hnc
  unfold GrPost at tr
  unfold BolPost at r1
  rw [hc0, show (chG j).roots.length = 1 from rfl, show (chG j).weaks.length = 0 from rfl] at tr m1 al r1
  have HF := Lib.hid hf
  have M1 := Lib.hid m1
  have AL := Lib.hid al
  have R1 := Lib.hid r1
  have HK := Lib.hid hk
  obtain ⟨f0, f1, f2⟩ := hf wr (Keep.refl _ _)
  clear hbO hno hK hk hnl hb0 hr hg hf hc0 m1 al r1
  by_cases h4 : 4096 < j
  · have h4' : (4096 : Int) < j := by omega
    have hte : trimE (chG j) = ⟨[], [], []⟩ := if_neg (chG_not h4)
    have hrb : reachB (chG j) [0] = [] := if_neg (chG_not h4)
    have hmn : decide (MayG (chG j)) = false := decide_eq_false (chG_not h4)
    rw [hte] at tr
    have HRB := Lib.hid hrb
    have HMN := Lib.hid hmn
    clear hte hrb hmn
    go_wp2_with fail
    (with_reducible refine tr.mono ?_)
    rintro e w6 ⟨E0, E1, E2, x0, x1, x2, rfl, hg6, k6⟩
    have kt : Keep [] w6 (w6.alloc (.cells #[.slice E0 0 x0, .slice E1 0 x1, .slice E2 0 x2] 25)) := Keep.alloc _ _
    have bt := Blk.new w6 25 #[.slice E0 0 x0, .slice E1 0 x1, .slice E2 0 x2]
    obtain ⟨w7, hw7⟩ : ∃ w7, w7 = w6.alloc (.cells #[.slice E0 0 x0, .slice E1 0 x1, .slice E2 0 x2] 25) := ⟨_, rfl⟩
    rw [← hw7] at kt bt
    have hm := M1.out w7 (k6.trans kt)
    rw [HMN.out] at hm
    clear f0 f1 f2 tr
    obtain ⟨f0, f1, f2⟩ := HF.out w7 (k6.trans kt)
    have H7 := Lib.hid (And.intro bt (k6.trans kt))
    have HW7 := Lib.hid hw7
    clear kt bt hw7 k6 hg6
    go_upto_region 12 with fail
    (try simp only [List.length_nil])
    rw [← HW7.out]
    go_wp2_with fail
    (with_reducible refine hm.mono ?_)
    rintro e w8 ⟨rfl, k8⟩
    have k8' := H7.out.2.trans k8
    clear f0 f1 f2 hm
    obtain ⟨f0, f1, f2⟩ := HF.out w8 k8'
    have y0 := ((H7.out.1.keep k8 (by simp)).cell 0).trans (show _ = some (Value.slice E0 0 x0) from rfl)
    have kl : Keep [] w8 (w8.alloc (.cells #[.int .i64 0] 3)) := Keep.alloc _ _
    have bl := Blk.new w8 3 #[.int .i64 0]
    obtain ⟨w9, hw9⟩ : ∃ w9, w9 = w8.alloc (.cells #[.int .i64 0] 3) := ⟨_, rfl⟩
    rw [← hw9] at kl bl
    have hil : IntL w9 (some ⟨w8.heap.size, 0, none⟩) 1 [0] := ⟨by show 1 ≤ 1; omega, fun e => (by cases e), by omega, fun _ => ⟨_, 0, rfl, bl.lt, fun i hi => by
      have hi2 : i < 1 := hi
      obtain rfl : i = 0 := by omega
      exact bl.cell 0⟩⟩
    have hre := R1.out w9 _ _ (k8'.trans kl) hil
    rw [HRB.out, show ([0] : List Int).length = 1 from rfl, show ([] : List Bool).length = 0 from rfl] at hre
    have H9 := Lib.hid (k8'.trans kl)
    clear k8 k8' kl bl hil
    have HW9 := Lib.hid hw9
    clear hw9
    go_wp2_with (go_at_call 14; rw [← HW9.out]; with_reducible refine hre.mono ?_; rintro e w10 ⟨Q, xq, rfl, hbq, k10⟩)
    have haw := AW.out w10
    have HK10 := Lib.hid ((HK.out.trans H9.out).trans k10)
    clear k10 hbq hre f0 f1 f2 y0
    go_wp2_with fail
    (with_reducible refine haw.mono ?_)
    rintro e w11 ⟨rfl, k11⟩
    have HK11 := Lib.hid (HK10.out.trans k11)
    clear k11 haw
    go_wp2
    go_ret
    exact ⟨rfl, HK11.out⟩
  have h4' : ¬ (4096 : Int) < j := by omega
  have hM := chG_may (n := j) (by omega) (by omega)
  have hte : trimE (chG j) = trimG (chG j) := if_pos hM
  have hln : (trimE (chG j)).nodes.length = j := by rw [hte]; exact chG_len (by omega)
  have HAL := Lib.hid (show decide (AlikeG (chG j) (trimE (chG j))) = true from decide_eq_true (by rw [hte]; exact alike_trim hM))
  have HMY := Lib.hid (show decide (MayG (chG j)) = true from decide_eq_true hM)
  rw [hln] at tr
  have HLN := Lib.hid hln
  clear hM hte hln
  obtain ⟨l1, hl1⟩ : ∃ l1, (trimE (chG j)).roots.length = l1 := ⟨_, rfl⟩
  obtain ⟨l2, hl2⟩ : ∃ l2, (trimE (chG j)).weaks.length = l2 := ⟨_, rfl⟩
  rw [hl1, hl2] at tr
  have HL12 := Lib.hid (And.intro hl1 hl2)
  clear hl1 hl2
  go_wp2_with fail
  (with_reducible refine tr.mono ?_)
  rintro e w6 ⟨E0, E1, E2, x0, x1, x2, rfl, hg6, k6⟩
  have kt : Keep [] w6 (w6.alloc (.cells #[.slice E0 j x0, .slice E1 l1 x1, .slice E2 l2 x2] 25)) := Keep.alloc _ _
  have bt := Blk.new w6 25 #[.slice E0 j x0, .slice E1 l1 x1, .slice E2 l2 x2]
  obtain ⟨w7, hw7⟩ : ∃ w7, w7 = w6.alloc (.cells #[.slice E0 j x0, .slice E1 l1 x1, .slice E2 l2 x2] 25) := ⟨_, rfl⟩
  rw [← hw7] at kt bt
  have hm := M1.out w7 (k6.trans kt)
  rw [HMY.out] at hm
  clear f0 f1 f2 tr
  obtain ⟨f0, f1, f2⟩ := HF.out w7 (k6.trans kt)
  have H7 := Lib.hid (And.intro bt (And.intro (k6.trans kt) (hg6.keep kt)))
  have HW7 := Lib.hid hw7
  clear kt bt hw7 k6 hg6
  have e1 : ((j : Int) == j) = true := by simp
  go_upto_region 12 with fail
  rw [← HW7.out]
  go_wp2_with fail
  (with_reducible refine hm.mono ?_)
  rintro e w8 ⟨rfl, k8⟩
  have k8' := H7.out.2.1.trans k8
  clear f0 f1 f2 hm
  obtain ⟨f0, f1, f2⟩ := HF.out w8 k8'
  have bt8 := H7.out.1.keep k8 (by simp)
  have y0 := (bt8.cell 0).trans (show _ = some (Value.slice E0 j x0) from rfl)
  have y1 := (bt8.cell 1).trans (show _ = some (Value.slice E1 l1 x1) from rfl)
  have y2 := (bt8.cell 2).trans (show _ = some (Value.slice E2 l2 x2) from rfl)
  have hal := AL.out w8 _ _ _ _ _ _ k8' (H7.out.2.2.keep k8)
  rw [HAL.out, HLN.out, HL12.out.1, HL12.out.2] at hal
  have H8 := Lib.hid k8'
  clear k8 k8' bt8
  go_wp2_with fail
  (with_reducible refine hal.mono ?_)
  rintro e w10 ⟨rfl, k10⟩
  have haw := AW.out w10
  have HK10 := Lib.hid ((HK.out.trans H8.out).trans k10)
  clear k10 hal f0 f1 f2 y0 y1 y2
  go_wp2_with fail
  (with_reducible refine haw.mono ?_)
  rintro e w11 ⟨rfl, k11⟩
  have HK11 := Lib.hid (HK10.out.trans k11)
  clear k11 haw
  go_wp2
  go_ret
  exact ⟨rfl, HK11.out⟩
end Go.Proofs.Ytigclopkoolocaa
