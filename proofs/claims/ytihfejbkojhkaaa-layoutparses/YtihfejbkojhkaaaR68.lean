/-
  The document's twin of layout: Parse. No conditions but what is in memory.
-/
import Derived.Test.YtihfejbkojhkaaaR67
import Derived.Test.YtihfejbkojhkaaaR63
import Derived.Test.YtihfejbkojhkaaaLps2
import Derived.BigRegion
namespace Go.Proofs.Ytihfejbkojhkaaa
open Go.RowKit Go.Flo Go.Bit
set_option maxRecDepth 100000

theorem ints_grown {w w' : World} {A : Option Addr} {n c : Nat} {f : Nat → Int} {row : Option Nat} (h : Ints w A n c f) (hg : w.grownBy w' row) (hn : ∀ a, A = some a → row ≠ some a.block) : Ints w' A n c f :=
  h.keepO (own := row.toList) (Keep.grown hg (fun k _ e => by simp [e])) (fun a ea hm => hn a ea (by simpa [Option.mem_toList] using hm))
/-- A kind that was parsed. -/
def KI (B : Nat) (wr : World) (v : Value) (x : Nat) (A : Option Addr) (c : Nat) : Prop :=
  Ints wr A (pm x) c (pf x) ∧ RPk x ∧ ∃ b o, A = some ⟨b, o, none⟩ ∧ B ≤ b ∧ b < wr.heap.size ∧ v.ownBlock ≠ some b
def kv (W : Nat → Nat) (cs : Nat → Option Addr × Nat) (i : Nat) : Value := .slice (cs i).1 (pm (W (9 + i))) (cs i).2
theorem KI.grow {B : Nat} {wr wm w' : World} {v v' : Value} {x : Nat} {A : Option Addr} {c : Nat} (h : KI B wr v x A c) (hk : Keep [] wr wm) (hg : wm.grownBy w' v.ownBlock) (hb : v'.ownBlock = v.ownBlock ∨ v'.ownBlock = some wm.heap.size) : KI B w' v' x A c := by
  obtain ⟨hI, hR, b, o, e, h1, h2, h3⟩ := h
  refine ⟨ints_grown (hI.keep hk) hg (fun a ea => by rw [ea] at e; injection e with e; subst e; exact h3), hR, b, o, e, h1, Nat.lt_of_lt_of_le h2 (Nat.le_trans hk.size hg.size), ?_⟩
  rcases hb with hb | hb
  · rw [hb]; exact h3
  · rw [hb]
    intro hx
    injection hx with hx
    have := hk.size
    omega
theorem KI.set {B : Nat} {wr : World} {v : Value} {x : Nat} {A : Option Addr} {c : Nat} (h : KI B wr v x A c) (p : Addr) (hp : p.block < B) (u : Value) : KI B (wr.setCell p u) v x A c := by
  obtain ⟨hI, hR, b, o, e, h1, h2, h3⟩ := h
  have ks : Keep [p.block] wr (wr.setCell p u) := Keep.setCell _ _ (by simp) _
  exact ⟨hI.keepO ks (fun a ea => by rw [ea] at e; injection e with e; subst e; simp; omega), hR, b, o, e, h1, Nat.lt_of_lt_of_le h2 ks.size, h3⟩
theorem owns_lt {w : World} {B n size : Nat} {t : TypeId} {v : Value} {xs : List Value} (h : w.ownsRow B t size v n xs) (b : Nat) (hb : w.heap.size ≤ b) : v.ownBlock ≠ some b := by
  rcases h.2 with ⟨rfl, _⟩ | ⟨g, cap, cur, rfl, _, hg, _⟩
  · simp [Value.ownBlock]
  · simp [Value.ownBlock]
    intro e
    subst e
    rw [Array.getElem?_eq_none hb] at hg
    cases hg
theorem kv_next (W : Nat → Nat) (cs : Nat → Option Addr × Nat) (j : Nat) (A : Option Addr) (c z : Nat) (hz : W (9 + j) = z) : (List.range j).map (kv W cs) ++ [.slice A (pm z) c] = (List.range (j + 1)).map (kv W (fun i => if i = j then (A, c) else cs i)) := by
  rw [List.range_succ, List.map_append]
  congr 1
  · apply List.map_congr_left
    intro i hi
    have : ¬ i = j := by simp at hi; omega
    simp [kv, this]
  · simp [kv, hz]
/-- On the way: the result's cell, the config so far. -/
def PS (CS : Array Value) (w wx : World) : Prop := Blk wx w.heap.size 25 #[.slice none 0 0, .int .i64 0, .int .i64 0, .int .i64 0, .int .i64 0, .int .i64 0, .int .i64 0, .int .i64 0] ∧ Blk wx (w.heap.size + 1) 25 CS ∧ Keep [] w wx
theorem PS.set {X : Array Value} {w wx : World} (h : PS X w wx) (k : Nat) (v : Value) : PS (X.setIfInBounds k v) w (wx.setCell ⟨w.heap.size + 1, k, none⟩ v) :=
  ⟨h.1.far (by simp) _, h.2.1.set_ k v, h.2.2.since (own := [w.heap.size + 1]) (Keep.setCell _ _ (by simp) _) (by simp)⟩
theorem PS.drew {X : Array Value} {w wx : World} (h : PS X w wx) : PS X w wx.drew :=
  ⟨h.1.keep (own := []) (Keep.drew _) (by simp), h.2.1.keep (own := []) (Keep.drew _) (by simp), h.2.2.trans (Keep.drew _)⟩
def RkRel (w : World) (W : Nat → Nat) (n : Nat) (y : Value) (wr : World) : Prop :=
  ∃ (j : Nat) (v : Value) (cs : Nat → Option Addr × Nat), j ≤ n ∧ y = .int .i64 j ∧ wr.ownsRow (w.heap.size + 2) 60 1 v j ((List.range j).map (kv W cs)) ∧ (∀ i, i < j → KI (w.heap.size + 2) wr v (W (9 + i)) (cs i).1 (cs i).2) ∧ PS #[v, .int .i64 (W 4 : Nat), .int .i64 (W 5 : Nat), .int .i64 (W 6 : Nat), .int .i64 (W 7 : Nat), .int .i64 (W 1 : Nat), .int .i64 (W 2 : Nat), .int .i64 (W 3 : Nat)] w wr
theorem POk.small {L : Nat} {W : Nat → Nat} (h : POk L W) : ∀ i, i < 8 → W (1 + i) ≤ 4096 := by
  obtain ⟨_, _, h8, _, _, ⟨x0, x1, x2, x3, _⟩, ⟨_, x5, _, x7⟩, ⟨_, x9, _⟩⟩ := h
  intro i hi
  match i, hi with
  | 0, _ => show W 1 ≤ 4096; omega
  | 1, _ => show W 2 ≤ 4096; omega
  | 2, _ => show W 3 ≤ 4096; omega
  | 3, _ => show W 4 ≤ 4096; omega
  | 4, _ => show W 5 ≤ 4096; omega
  | 5, _ => show W 6 ≤ 4096; omega
  | 6, _ => show W 7 ≤ 4096; omega
  | 7, _ => show W 8 ≤ 4096; omega
theorem owns_kinds {w : World} {B n : Nat} {v : Value} {W : Nat → Nat} {cs : Nat → Option Addr × Nat} (h : w.ownsRow B 60 1 v n ((List.range n).map (kv W cs))) (hk : ∀ i, i < n → KI B w v (W (9 + i)) (cs i).1 (cs i).2) :
    ∃ A c, v = .slice A n c ∧ KNew B w A n c (fun i => pm (W (9 + i))) (fun i => pf (W (9 + i))) := by
  rcases h.2 with ⟨rfl, rfl⟩ | ⟨g, cap, cur, rfl, hg, _⟩
  · exact ⟨none, 0, rfl, by omega, fun h => by omega, by omega⟩
  · have hr := Row.of_owns h
    refine ⟨some ⟨g, 0, none⟩, cap, rfl, hr.cap_le, fun _ => ⟨g, 0, rfl, hg, hr.lt, fun i hi => ⟨(cs i).1, (cs i).2, by rw [Nat.zero_add]; exact hr.cell hi, (hk i hi).1, fun a ea => ?_⟩⟩, by have := hr.cap_max; unfold maxLen at this; omega⟩
    obtain ⟨_, _, b, o, e, h1, _⟩ := hk i hi
    rw [ea] at e
    injection e with e
    subst e
    exact h1

def SmRel (W : Nat → Nat) (w2 : World) (y : Value) (wr : World) : Prop := ∃ j : Nat, j ≤ 8 ∧ y = .int .i64 j ∧ wr = w2 ∧ ∀ i, i < j → W (1 + i) ≤ 4096

set_option maxHeartbeats 4000000 in
theorem rparse_any (w : World) (A : Option Addr) (L cap : Nat) (W : Nat → Nat) (h : Wrd w A L cap W) :
    Calls Try.prog 34 #[.slice A L cap] w (PPost L W w) := by
  have h2 : PS #[.slice none 0 0, .int .i64 0, .int .i64 0, .int .i64 0, .int .i64 0, .int .i64 0, .int .i64 0, .int .i64 0] w ((w.alloc (.cells #[.slice none 0 0, .int .i64 0, .int .i64 0, .int .i64 0, .int .i64 0, .int .i64 0, .int .i64 0, .int .i64 0] 25)).alloc (.cells #[.slice none 0 0, .int .i64 0, .int .i64 0, .int .i64 0, .int .i64 0, .int .i64 0, .int .i64 0, .int .i64 0] 25)) := by
    have := two w #[.slice none 0 0, .int .i64 0, .int .i64 0, .int .i64 0, .int .i64 0, .int .i64 0, .int .i64 0, .int .i64 0] #[.slice none 0 0, .int .i64 0, .int .i64 0, .int .i64 0, .int .i64 0, .int .i64 0, .int .i64 0, .int .i64 0] 25 25
    exact ⟨this.2.1, this.1, this.2.2⟩
  have HS := Lib.hid h2
  clear h2
  have HWD := Lib.hid h
  have hnc := h.nc
  have hcc := h.cap
  clear h
  go_enter Try.func34, Try.ntmps34
  go_upto_region 2 with fail
  refine gen_world (R := PS #[.slice none 0 0, .int .i64 0, .int .i64 0, .int .i64 0, .int .i64 0, .int .i64 0, .int .i64 0, .int .i64 0] w) HS.out ?_
  clear HS
  intro w2 h2
  have H2 := Lib.hid h2
  have hZ0 := h2.1
  have q0 := (h2.2.1.cell 0).trans (show _ = some (Value.slice none 0 0) from rfl)
  have q1 := (h2.2.1.cell 1).trans (show _ = some (Value.int .i64 0) from rfl)
  have q2 := (h2.2.1.cell 2).trans (show _ = some (Value.int .i64 0) from rfl)
  have q3 := (h2.2.1.cell 3).trans (show _ = some (Value.int .i64 0) from rfl)
  have q4 := (h2.2.1.cell 4).trans (show _ = some (Value.int .i64 0) from rfl)
  have q5 := (h2.2.1.cell 5).trans (show _ = some (Value.int .i64 0) from rfl)
  have q6 := (h2.2.1.cell 6).trans (show _ = some (Value.int .i64 0) from rfl)
  have q7 := (h2.2.1.cell 7).trans (show _ = some (Value.int .i64 0) from rfl)
  have k2 := h2.2.2
  clear h2
  by_cases c1 : L < 10
  case pos =>
    have HN := Lib.hid (show ¬ POk L W from fun h => by have h1 := h.1; have h2 := h.2.2.2.2.1.1; omega)
    go_wp2_with (refine wpList_store_row rfl 25 (.tmp 2) (.tmp 23) rfl w.heap.size #[.slice none 0 0, .int .i64 0, .int .i64 0, .int .i64 0, .int .i64 0, .int .i64 0, .int .i64 0, .int .i64 0] rfl rfl 25 #[.slice none 0 0, .int .i64 0, .int .i64 0, .int .i64 0, .int .i64 0, .int .i64 0, .int .i64 0, .int .i64 0] hZ0 zero25 rfl zero1 ?_)
    (try simp only [Exit.inBlock, Exit.then])
    refine bodyPost_ret (v := .tuple #[.agg #[.slice none 0 0, .int .i64 0, .int .i64 0, .int .i64 0, .int .i64 0, .int .i64 0, .int .i64 0, .int .i64 0], .int .i64 8]) ?_ rfl ?_
    · exact results_cell_tmp rfl _ _ w.heap.size 25 #[.slice none 0 0, .int .i64 0, .int .i64 0, .int .i64 0, .int .i64 0, .int .i64 0, .int .i64 0, .int .i64 0] (0, 0) _ _ rfl rfl (setRow_heap _ _ _ _ _ _ hZ0) Try.underlying25 rfl zero25
    exact Or.inr ⟨HN.out, rfl, (k2).since (Keep.setRow (own := [w.heap.size]) _ _ (by simp) _) (by simp)⟩
  have cL : decide ((L : Int) < 10) = false := by simp; omega
  have cL2 : ¬ (L : Int) < 10 := by omega
  obtain ⟨b, o, rfl, hb, hc⟩ := HWD.out.cells (by omega)
  have HC0 := Lib.hid (fun (V : World) (hk : Keep [] w V) j hj => (hk.cell (p := ⟨b, o + j, none⟩) hb (by simp)).trans (hc j hj))
  have x0 := HC0.out _ k2 0 (by omega)
  rw [Nat.add_zero] at x0
  clear hc
  by_cases c2 : W 0 = magicN
  case neg =>
    have HN := Lib.hid (show ¬ POk L W from fun h => c2 h.2.1)
    have e2 : ((W 0 : Nat) : Int) ≠ 8317131967827831151 := by unfold magicN at c2; omega
    have e3 : (((W 0 : Nat) : Int) == 8317131967827831151) = false := by simp; omega
    have e4 : (((W 0 : Nat) : Int) != 8317131967827831151) = true := by simp; omega
    generalize W 0 = z0 at *
    clear c2
    go_wp2_with (refine wpList_store_row rfl 25 (.tmp 2) (.tmp 23) rfl w.heap.size #[.slice none 0 0, .int .i64 0, .int .i64 0, .int .i64 0, .int .i64 0, .int .i64 0, .int .i64 0, .int .i64 0] rfl rfl 25 #[.slice none 0 0, .int .i64 0, .int .i64 0, .int .i64 0, .int .i64 0, .int .i64 0, .int .i64 0, .int .i64 0] hZ0 zero25 rfl zero1 ?_)
    (try simp only [Exit.inBlock, Exit.then])
    refine bodyPost_ret (v := .tuple #[.agg #[.slice none 0 0, .int .i64 0, .int .i64 0, .int .i64 0, .int .i64 0, .int .i64 0, .int .i64 0, .int .i64 0], .int .i64 8]) ?_ rfl ?_
    · exact results_cell_tmp rfl _ _ w.heap.size 25 #[.slice none 0 0, .int .i64 0, .int .i64 0, .int .i64 0, .int .i64 0, .int .i64 0, .int .i64 0, .int .i64 0] (0, 0) _ _ rfl rfl (setRow_heap _ _ _ _ _ _ hZ0) Try.underlying25 rfl zero25
    exact Or.inr ⟨HN.out, rfl, (k2).since (Keep.setRow (own := [w.heap.size]) _ _ (by simp) _) (by simp)⟩
  rw [show ((W 0 : Nat) : Int) = 8317131967827831151 by rw [c2]; rfl] at x0
  have HC2 := Lib.hid c2
  have t9 : (9 : Int) ≤ (cap : Int) := by omega
  have nc1 : ¬ cap = 1 := by omega
  clear c2
  go_wp2
  clear x0
  go_loopw [27] (fun y wr => SmRel W w2 y wr) (fun y _ => 8 - (intOf y).toNat)
  case atStart => exact ⟨0, by omega, rfl, rfl, fun i hi => by omega⟩
  case round =>
  obtain ⟨j, hj, rfl, rfl, hsm⟩ := hrel
  have HSM := Lib.hid hsm
  clear hsm
  by_cases hlt : j < 8
  case pos =>
    have cj := HC0.out _ k2 (1 + j) (by omega)
    rw [← Nat.add_assoc] at cj
    obtain ⟨z, hz⟩ : ∃ z, W (1 + j) = z := ⟨_, rfl⟩
    have HZ := Lib.hid hz
    rw [hz] at cj
    clear hz
    by_cases hbig : z ≤ 4096
    · have hbig2 : ¬ 4096 < z := by omega
      clear q0 q1 q2 q3 q4 q5 q6 q7
      go_wp2
      go_roundw
      case rel => exact ⟨j + 1, by omega, by go_num, rfl, fun i hi => by
        rcases Nat.lt_or_ge i j with h | h
        · exact HSM.out i h
        · rw [show i = j by omega, HZ.out]; exact hbig⟩
      case measure => simp [intOf]; omega
    · have hbig2 : 4096 < z := by omega
      have HN := Lib.hid (show ¬ POk L W from fun h => by have := POk.small h j hlt; rw [HZ.out] at this; omega)
      go_wp2_with (refine wpList_store_row rfl 25 (.tmp 2) (.tmp 33) rfl w.heap.size #[.slice none 0 0, .int .i64 0, .int .i64 0, .int .i64 0, .int .i64 0, .int .i64 0, .int .i64 0, .int .i64 0] rfl rfl 25 #[.slice none 0 0, .int .i64 0, .int .i64 0, .int .i64 0, .int .i64 0, .int .i64 0, .int .i64 0, .int .i64 0] hZ0 zero25 rfl zero1 ?_)
      (try simp only [Exit.inBlock, Exit.then])
      refine bodyPost_ret (v := .tuple #[.agg #[.slice none 0 0, .int .i64 0, .int .i64 0, .int .i64 0, .int .i64 0, .int .i64 0, .int .i64 0, .int .i64 0], .int .i64 8]) ?_ rfl ?_
      · exact results_cell_tmp rfl _ _ w.heap.size 25 #[.slice none 0 0, .int .i64 0, .int .i64 0, .int .i64 0, .int .i64 0, .int .i64 0, .int .i64 0, .int .i64 0] (0, 0) _ _ rfl rfl (setRow_heap _ _ _ _ _ _ hZ0) Try.underlying25 rfl zero25
      exact Or.inr ⟨HN.out, rfl, (k2).since (Keep.setRow (own := [w.heap.size]) _ _ (by simp) _) (by simp)⟩
  obtain rfl : j = 8 := by omega
  have s1 : W 1 ≤ 4096 := HSM.out 0 (by omega)
  have s2 : W 2 ≤ 4096 := HSM.out 1 (by omega)
  have s3 : W 3 ≤ 4096 := HSM.out 2 (by omega)
  have s4 : W 4 ≤ 4096 := HSM.out 3 (by omega)
  have s5 : W 5 ≤ 4096 := HSM.out 4 (by omega)
  have s6 : W 6 ≤ 4096 := HSM.out 5 (by omega)
  have s7 : W 7 ≤ 4096 := HSM.out 6 (by omega)
  have s8 : W 8 ≤ 4096 := HSM.out 7 (by omega)
  have x8 := HC0.out _ k2 8 (by omega)
  obtain ⟨z8, hz8⟩ : ∃ z, W 8 = z := ⟨_, rfl⟩
  have HZ8 := Lib.hid hz8
  rw [hz8] at x8 s8
  have t8 : (8 : Int) < (L : Int) := by omega
  clear hz8 HSM
  by_cases c3 : z8 ≤ 16
  case neg =>
    have c5 : 16 < z8 := by omega
    have HN := Lib.hid (show ¬ POk L W from fun h => by have := h.2.2.1; rw [HZ8.out] at this; omega)
    go_wp2_with (refine wpList_store_row rfl 25 (.tmp 2) (.tmp 48) rfl w.heap.size #[.slice none 0 0, .int .i64 0, .int .i64 0, .int .i64 0, .int .i64 0, .int .i64 0, .int .i64 0, .int .i64 0] rfl rfl 25 #[.slice none 0 0, .int .i64 0, .int .i64 0, .int .i64 0, .int .i64 0, .int .i64 0, .int .i64 0, .int .i64 0] hZ0 zero25 rfl zero1 ?_)
    (try simp only [Exit.inBlock, Exit.then])
    refine bodyPost_ret (v := .tuple #[.agg #[.slice none 0 0, .int .i64 0, .int .i64 0, .int .i64 0, .int .i64 0, .int .i64 0, .int .i64 0, .int .i64 0], .int .i64 8]) ?_ rfl ?_
    · exact results_cell_tmp rfl _ _ w.heap.size 25 #[.slice none 0 0, .int .i64 0, .int .i64 0, .int .i64 0, .int .i64 0, .int .i64 0, .int .i64 0, .int .i64 0] (0, 0) _ _ rfl rfl (setRow_heap _ _ _ _ _ _ hZ0) Try.underlying25 rfl zero25
    exact Or.inr ⟨HN.out, rfl, (k2).since (Keep.setRow (own := [w.heap.size]) _ _ (by simp) _) (by simp)⟩
  have c5 : ¬ 16 < z8 := by omega
  by_cases c4 : 9 + z8 ≤ L
  case neg =>
    have c6 : L < 9 + z8 := by omega
    have c7 : (L : Int) < 9 + (z8 : Int) := by omega
    have HN := Lib.hid (show ¬ POk L W from fun h => by have := h.1; rw [HZ8.out] at this; omega)
    go_wp2_with (refine wpList_store_row rfl 25 (.tmp 2) (.tmp 48) rfl w.heap.size #[.slice none 0 0, .int .i64 0, .int .i64 0, .int .i64 0, .int .i64 0, .int .i64 0, .int .i64 0, .int .i64 0] rfl rfl 25 #[.slice none 0 0, .int .i64 0, .int .i64 0, .int .i64 0, .int .i64 0, .int .i64 0, .int .i64 0, .int .i64 0] hZ0 zero25 rfl zero1 ?_)
    (try simp only [Exit.inBlock, Exit.then])
    refine bodyPost_ret (v := .tuple #[.agg #[.slice none 0 0, .int .i64 0, .int .i64 0, .int .i64 0, .int .i64 0, .int .i64 0, .int .i64 0, .int .i64 0], .int .i64 8]) ?_ rfl ?_
    · exact results_cell_tmp rfl _ _ w.heap.size 25 #[.slice none 0 0, .int .i64 0, .int .i64 0, .int .i64 0, .int .i64 0, .int .i64 0, .int .i64 0, .int .i64 0] (0, 0) _ _ rfl rfl (setRow_heap _ _ _ _ _ _ hZ0) Try.underlying25 rfl zero25
    exact Or.inr ⟨HN.out, rfl, (k2).since (Keep.setRow (own := [w.heap.size]) _ _ (by simp) _) (by simp)⟩
  have c6 : ¬ L < 9 + z8 := by omega
  have c7 : ¬ (L : Int) < 9 + (z8 : Int) := by omega
  have u5 := H2.out.2.1.frozen 5
  have u6 := H2.out.2.1.frozen 6
  have u7 := H2.out.2.1.frozen 7
  have x1 := HC0.out _ k2 1 (by omega)
  have x2 := HC0.out _ k2 2 (by omega)
  have x3 := HC0.out _ k2 3 (by omega)
  have t1 : (1 : Int) < (L : Int) := by omega
  have t2 : (2 : Int) < (L : Int) := by omega
  have t3 : (3 : Int) < (L : Int) := by omega
  have hne : ¬ b = w.heap.size + 1 := by omega
  have hne2 : ¬ w.heap.size + 1 = b := by omega
  clear hZ0 q0 q1 q2 q3 q4
  go_upto_region 13 with fail
  go_cut [] (fun wx => PS #[.slice none 0 0, .int .i64 0, .int .i64 0, .int .i64 0, .int .i64 0, .int .i64 (W 1 : Nat), .int .i64 (W 2 : Nat), .int .i64 (W 3 : Nat)] w wx)
  case first =>
    go_wp2_with fail
    go_region
    all_goals
      go_wp2_with fail
      go_meet
      first | exact (((H2.out.set 5 _).set 6 _).set 7 _).drew | exact ((H2.out.drew.set 5 _).set 6 _).set 7 _
  case rest =>
  clear x1 x2 x3 x8 u5 u6 u7 q5 q6 q7 H2 k2
  generalize hwx : wc = w3 at *
  clear hwx
  have HF := Lib.hid (fun wx (e : wx = ((((w3.setCell ⟨w.heap.size + 1, 1, none⟩ (.int .i64 (W 4 : Nat))).setCell ⟨w.heap.size + 1, 2, none⟩ (.int .i64 (W 5 : Nat))).setCell ⟨w.heap.size + 1, 3, none⟩ (.int .i64 (W 6 : Nat))).setCell ⟨w.heap.size + 1, 4, none⟩ (.int .i64 (W 7 : Nat)))) => (show PS #[.slice none 0 0, .int .i64 (W 4 : Nat), .int .i64 (W 5 : Nat), .int .i64 (W 6 : Nat), .int .i64 (W 7 : Nat), .int .i64 (W 1 : Nat), .int .i64 (W 2 : Nat), .int .i64 (W 3 : Nat)] w wx from e ▸ (((hcut.set 1 _).set 2 _).set 3 _).set 4 _))
  have x4 := HC0.out _ hcut.2.2 4 (by omega)
  have x5 := HC0.out _ hcut.2.2 5 (by omega)
  have x6 := HC0.out _ hcut.2.2 6 (by omega)
  have x7 := HC0.out _ hcut.2.2 7 (by omega)
  have y1 := (hcut.2.1.cell 1).trans (show _ = some (Value.int .i64 0) from rfl)
  have y2 := (hcut.2.1.cell 2).trans (show _ = some (Value.int .i64 0) from rfl)
  have y3 := (hcut.2.1.cell 3).trans (show _ = some (Value.int .i64 0) from rfl)
  have y4 := (hcut.2.1.cell 4).trans (show _ = some (Value.int .i64 0) from rfl)
  have u1 := hcut.2.1.frozen 1
  have u2 := hcut.2.1.frozen 2
  have u3 := hcut.2.1.frozen 3
  have u4 := hcut.2.1.frozen 4
  clear hcut
  go_wp2
  refine wp_loop_rounds 5 ?_
  rw [rounds_succ]; go_wp2
  rw [rounds_succ]; go_wp2
  rw [rounds_succ]; go_wp2
  rw [rounds_succ]; go_wp2
  rw [rounds_succ]; go_upto_region 19 with fail
  refine gen_world (R := PS #[.slice none 0 0, .int .i64 (W 4 : Nat), .int .i64 (W 5 : Nat), .int .i64 (W 6 : Nat), .int .i64 (W 7 : Nat), .int .i64 (W 1 : Nat), .int .i64 (W 2 : Nat), .int .i64 (W 3 : Nat)] w) (HF.out _ (by with_reducible rfl)) ?_
  clear HF x4 x5 x6 x7 y1 y2 y3 y4 u1 u2 u3 u4
  intro wa ha
  generalize w3 = wo
  have HPS := Lib.hid ha
  obtain ⟨ii, hii, hz0, hz1, hz2⟩ := info_of kindparts
  have tc1 : (9 : Int) + (z8 : Int) ≤ (cap : Int) := by omega
  have tc2 : ¬ cap = 9 := by omega
  clear ha
  go_wp2
  go_loopw [82] (fun y wr => RkRel w W z8 y wr) (fun y _ => z8 - (intOf y).toNat)
  case atStart => exact ⟨0, .slice none 0 0, fun _ => (none, 0), by omega, rfl, ⟨rfl, Or.inl ⟨rfl, rfl⟩⟩, fun i hi => by omega, HPS.out⟩
  case round =>
  obtain ⟨j, v, cs, hj, rfl, hown, hki, hps⟩ := hrel
  obtain ⟨Av, cv, rfl, hKN⟩ := owns_kinds hown hki
  by_cases hlt : j < z8
  case neg =>
    obtain rfl : j = z8 := by omega
    have hmay := rmay_any wr Av j cv (fun i => pm (W (9 + i))) (fun i => pf (W (9 + i))) (W 4 : Nat) (W 5 : Nat) (W 6 : Nat) (W 7 : Nat) (W 1 : Nat) (W 2 : Nat) (W 3 : Nat) (by omega) hKN.krow
    have q0 := (hps.2.1.cell 0).trans (show _ = some (Value.slice Av j cv) from rfl)
    have q1 := (hps.2.1.cell 1).trans (show _ = some (Value.int .i64 (W 4 : Nat)) from rfl)
    have q2 := (hps.2.1.cell 2).trans (show _ = some (Value.int .i64 (W 5 : Nat)) from rfl)
    have q3 := (hps.2.1.cell 3).trans (show _ = some (Value.int .i64 (W 6 : Nat)) from rfl)
    have q4 := (hps.2.1.cell 4).trans (show _ = some (Value.int .i64 (W 7 : Nat)) from rfl)
    have q5 := (hps.2.1.cell 5).trans (show _ = some (Value.int .i64 (W 1 : Nat)) from rfl)
    have q6 := (hps.2.1.cell 6).trans (show _ = some (Value.int .i64 (W 2 : Nat)) from rfl)
    have q7 := (hps.2.1.cell 7).trans (show _ = some (Value.int .i64 (W 3 : Nat)) from rfl)
    have HPO : POk L W ↔ MayC j (fun i => pm (W (9 + i))) (fun i => pf (W (9 + i))) (W 4 : Nat) (W 5 : Nat) (W 6 : Nat) (W 7 : Nat) (W 1 : Nat) (W 2 : Nat) (W 3 : Nat) := by
      unfold POk
      rw [HZ8.out]
      constructor
      · intro h; exact h.2.2.2.2
      · intro h; exact ⟨c4, HC2.out, c3, fun i hi => (hki i hi).2.1.2, h⟩
    have HPS2 := Lib.hid hps
    have HKN := Lib.hid hKN
    have kw2 := hps.2.2
    have hz2' := hps.1
    by_cases hM : MayC j (fun i => pm (W (9 + i))) (fun i => pf (W (9 + i))) (W 4 : Nat) (W 5 : Nat) (W 6 : Nat) (W 7 : Nat) (W 1 : Nat) (W 2 : Nat) (W 3 : Nat)
    case neg =>
      rw [show mayE j (fun i => pm (W (9 + i))) (fun i => pf (W (9 + i))) (W 4 : Nat) (W 5 : Nat) (W 6 : Nat) (W 7 : Nat) (W 1 : Nat) (W 2 : Nat) (W 3 : Nat) = 1 from if_neg hM] at hmay
      have HN := Lib.hid (show ¬ POk L W from fun h => hM (HPO.1 h))
      clear hM HPO hown hki hKN hps
      go_wp2_with fail
      (with_reducible refine hmay.mono ?_)
      rintro e wy ⟨rfl, ky⟩
      have hZy := hz2'.keep ky (by simp)
      go_wp2_with (refine wpList_store_row rfl 25 (.tmp 2) (.tmp 104) rfl w.heap.size #[.slice none 0 0, .int .i64 0, .int .i64 0, .int .i64 0, .int .i64 0, .int .i64 0, .int .i64 0, .int .i64 0] rfl rfl 25 #[.slice none 0 0, .int .i64 0, .int .i64 0, .int .i64 0, .int .i64 0, .int .i64 0, .int .i64 0, .int .i64 0] hZy zero25 rfl zero1 ?_)
      (try simp only [Exit.inBlock, Exit.then])
      refine bodyPost_ret (v := .tuple #[.agg #[.slice none 0 0, .int .i64 0, .int .i64 0, .int .i64 0, .int .i64 0, .int .i64 0, .int .i64 0, .int .i64 0], .int .i64 8]) ?_ rfl ?_
      · exact results_cell_tmp rfl _ _ w.heap.size 25 #[.slice none 0 0, .int .i64 0, .int .i64 0, .int .i64 0, .int .i64 0, .int .i64 0, .int .i64 0, .int .i64 0] (0, 0) _ _ rfl rfl (setRow_heap _ _ _ _ _ _ hZy) Try.underlying25 rfl zero25
      exact Or.inr ⟨HN.out, rfl, (kw2.trans ky).since (Keep.setRow (own := [w.heap.size]) _ _ (by simp) _) (by simp)⟩
    rw [show mayE j (fun i => pm (W (9 + i))) (fun i => pf (W (9 + i))) (W 4 : Nat) (W 5 : Nat) (W 6 : Nat) (W 7 : Nat) (W 1 : Nat) (W 2 : Nat) (W 3 : Nat) = 0 from if_pos hM] at hmay
    have HN := Lib.hid (show POk L W from HPO.2 hM)
    clear hM HPO hown hki hKN hps
    go_wp2_with fail
    (with_reducible refine hmay.mono ?_)
    rintro e wy ⟨rfl, ky⟩
    have hZy := hz2'.keep ky (by simp)
    have hBy := HPS2.out.2.1.keep ky (by simp)
    clear q0 q1 q2 q3 q4 q5 q6 q7
    have q0 := (hBy.cell 0).trans (show _ = some (Value.slice Av j cv) from rfl)
    have q1 := (hBy.cell 1).trans (show _ = some (Value.int .i64 (W 4 : Nat)) from rfl)
    have q2 := (hBy.cell 2).trans (show _ = some (Value.int .i64 (W 5 : Nat)) from rfl)
    have q3 := (hBy.cell 3).trans (show _ = some (Value.int .i64 (W 6 : Nat)) from rfl)
    have q4 := (hBy.cell 4).trans (show _ = some (Value.int .i64 (W 7 : Nat)) from rfl)
    have q5 := (hBy.cell 5).trans (show _ = some (Value.int .i64 (W 1 : Nat)) from rfl)
    have q6 := (hBy.cell 6).trans (show _ = some (Value.int .i64 (W 2 : Nat)) from rfl)
    have q7 := (hBy.cell 7).trans (show _ = some (Value.int .i64 (W 3 : Nat)) from rfl)
    have k25 : (Try.prog.info? 25).map (·.size) = some (#[.slice Av j cv, .int .i64 (W 4 : Nat), .int .i64 (W 5 : Nat), .int .i64 (W 6 : Nat), .int .i64 (W 7 : Nat), .int .i64 (W 1 : Nat), .int .i64 (W 2 : Nat), .int .i64 (W 3 : Nat)] : Array Value).size := by kernel_rfl
    have h1c : (#[.slice Av j cv, .int .i64 (W 4 : Nat), .int .i64 (W 5 : Nat), .int .i64 (W 6 : Nat), .int .i64 (W 7 : Nat), .int .i64 (W 1 : Nat), .int .i64 (W 2 : Nat), .int .i64 (W 3 : Nat)] : Array Value).all (·.oneCell') = true := by first | kernel_rfl | simp [Value.oneCell']
    clear hBy
    go_wp2_with (refine wpList_store_row rfl 25 (.tmp 2) (.tmp 105) rfl w.heap.size #[.slice Av j cv, .int .i64 (W 4 : Nat), .int .i64 (W 5 : Nat), .int .i64 (W 6 : Nat), .int .i64 (W 7 : Nat), .int .i64 (W 1 : Nat), .int .i64 (W 2 : Nat), .int .i64 (W 3 : Nat)] rfl rfl 25 #[.slice none 0 0, .int .i64 0, .int .i64 0, .int .i64 0, .int .i64 0, .int .i64 0, .int .i64 0, .int .i64 0] hZy k25 rfl h1c ?_)
    (try simp only [Exit.inBlock, Exit.then])
    refine bodyPost_ret (v := .tuple #[.agg #[.slice Av j cv, .int .i64 (W 4 : Nat), .int .i64 (W 5 : Nat), .int .i64 (W 6 : Nat), .int .i64 (W 7 : Nat), .int .i64 (W 1 : Nat), .int .i64 (W 2 : Nat), .int .i64 (W 3 : Nat)], .int .i64 0]) ?_ rfl ?_
    · exact results_cell_tmp rfl _ _ w.heap.size 25 #[.slice Av j cv, .int .i64 (W 4 : Nat), .int .i64 (W 5 : Nat), .int .i64 (W 6 : Nat), .int .i64 (W 7 : Nat), .int .i64 (W 1 : Nat), .int .i64 (W 2 : Nat), .int .i64 (W 3 : Nat)] (0, 0) _ _ rfl rfl (setRow_heap _ _ _ _ _ _ hZy) Try.underlying25 rfl k25
    have ks : Keep [w.heap.size] wy (wy.setRow w.heap.size #[.slice Av j cv, .int .i64 (W 4 : Nat), .int .i64 (W 5 : Nat), .int .i64 (W 6 : Nat), .int .i64 (W 7 : Nat), .int .i64 (W 1 : Nat), .int .i64 (W 2 : Nat), .int .i64 (W 3 : Nat)]) := Keep.setRow _ _ (by simp) _
    refine Or.inl ⟨HN.out, Av, cv, ?_, ?_, (kw2.trans ky).since ks (by simp)⟩
    · rw [HZ8.out]
    · rw [HZ8.out]
      exact ((HKN.out.keepO ky (by simp)).keepO ks (by intro k hk; simp; omega)).krow
  have cj := HC0.out _ hps.2.2 (9 + j) (by omega)
  rw [← Nat.add_assoc] at cj
  have hpk := rparseKind_any (W (9 + j)) (HWD.out.lt _) wr
  have hs1 := hps.2.1.lt
  have HH := Lib.hid (And.intro hown (And.intro hki hps))
  have hz2' := hps.1
  have kw2 := hps.2.2
  have q0 := (hps.2.1.cell 0).trans (show _ = some (Value.slice Av j cv) from rfl)
  have hjc := hKN.nc
  clear hown hki hps hKN
  obtain ⟨z, hz⟩ : ∃ z, W (9 + j) = z := ⟨_, rfl⟩
  rw [hz] at cj hpk
  have HZ := Lib.hid hz
  clear hz
  go_wp2_with fail
  (with_reducible refine hpk.mono ?_)
  rintro e w4 (⟨hR, A2, c2, rfl, hI2, hA2, k4⟩ | ⟨hR, rfl, k4⟩)
  case inr =>
    have HN := Lib.hid (show ¬ POk L W from fun h => hR (by
      have h1 := h.2.2.2.1 j (by rw [HZ8.out]; exact hlt)
      have h2 := h.2.2.2.2.1.2.2 j (by rw [HZ8.out]; exact hlt)
      dsimp only at h2
      rw [HZ.out] at h1 h2
      exact ⟨h2, h1⟩))
    have kA : Keep [] w4 (w4.alloc (.cells #[.slice none 0 0] 60)) := Keep.alloc _ _
    have hZy := (hz2'.keep k4 (by simp)).keep kA (by simp)
    clear q0 hR
    go_wp2_with (refine wpList_store_row rfl 25 (.tmp 2) (.tmp 93) rfl w.heap.size #[.slice none 0 0, .int .i64 0, .int .i64 0, .int .i64 0, .int .i64 0, .int .i64 0, .int .i64 0, .int .i64 0] rfl rfl 25 #[.slice none 0 0, .int .i64 0, .int .i64 0, .int .i64 0, .int .i64 0, .int .i64 0, .int .i64 0, .int .i64 0] hZy zero25 rfl zero1 ?_)
    (try simp only [Exit.inBlock, Exit.then])
    refine bodyPost_ret (v := .tuple #[.agg #[.slice none 0 0, .int .i64 0, .int .i64 0, .int .i64 0, .int .i64 0, .int .i64 0, .int .i64 0, .int .i64 0], .int .i64 8]) ?_ rfl ?_
    · exact results_cell_tmp rfl _ _ w.heap.size 25 #[.slice none 0 0, .int .i64 0, .int .i64 0, .int .i64 0, .int .i64 0, .int .i64 0, .int .i64 0, .int .i64 0] (0, 0) _ _ rfl rfl (setRow_heap _ _ _ _ _ _ hZy) Try.underlying25 rfl zero25
    exact Or.inr ⟨HN.out, rfl, ((kw2.trans k4).trans kA).since (Keep.setRow (own := [w.heap.size]) _ _ (by simp) _) (by simp)⟩
  have hkA : Keep [] w4 (w4.alloc (.cells #[.slice A2 (pm z) c2] 60)) := Keep.alloc _ _
  have hkB : Keep [] (w4.alloc (.cells #[.slice A2 (pm z) c2] 60)) ((w4.alloc (.cells #[.slice A2 (pm z) c2] 60)).alloc (.cells #[.slice A2 (pm z) c2] 60)) := Keep.alloc _ _
  have k5 := (k4.trans hkA).trans hkB
  have HO := Lib.hid (owns_kept HH.out.1 k5)
  have hszA : (w4.alloc (.cells #[.slice A2 (pm z) c2] 60)).heap.size = w4.heap.size + 1 := by simp
  have hnw := one_new6 (w4.alloc (.cells #[.slice A2 (pm z) c2] 60)) (.slice A2 (pm z) c2) 60
  rw [hszA] at hnw
  have HNW := Lib.hid hnw
  have q0' := ((HH.out.2.2.2.1.keep k4 (by simp)).cell 0).trans (show _ = some (Value.slice Av j cv) from rfl)
  have hs4 : w.heap.size + 1 < w4.heap.size := Nat.lt_of_lt_of_le hs1 k4.size
  have HR := Lib.hid hR
  have HI2 := Lib.hid (And.intro hI2 hA2)
  have HK5 := Lib.hid k5
  clear q0 hnw hR hI2 hA2 hkA hkB k5 hszA
  go_wp2_with (at_builtin; refine wpList_append_own_at _ rfl (.tmp 95) (.tmp 97) 22 rfl (w.heap.size + 2) 60 ii (.agg #[.slice none 0 0]) 1 24 Try.underlying22 hii hz0 hz1 hz2 rfl (by omega) (.slice Av j cv) j ((List.range j).map (kv W cs)) rfl HO.out ⟨w4.heap.size + 1, 0, none⟩ 1 1 [.slice A2 (pm z) c2] rfl ?c1 HNW.out ?c3 ?c4 ?c5 ?c6 ?_)
  case c1 => rfl
  case c3 => intro u hu; simp at hu; subst hu; rfl
  case c4 => unfold maxLen; omega
  case c5 => omega
  case c6 => simp; omega
  intro v' w' hown hgrow hnil hblk
  obtain ⟨hown0, hki, hps⟩ := HH.out
  have hk6 := grown_keep (kw2.trans HK5.out) (show w.heap.size ≤ w.heap.size + 2 by omega) HO.out hgrow
  have hB0 := grown_blk (hps.1.keep HK5.out (by simp)) (show w.heap.size < w.heap.size + 2 by omega) HO.out hgrow
  have hB1 := grown_blk (hps.2.1.keep HK5.out (by simp)) (show w.heap.size + 1 < w.heap.size + 2 by omega) HO.out hgrow
  rw [kv_next W cs j A2 c2 z HZ.out] at hown
  have hblk2 : v'.ownBlock = (Value.slice Av j cv).ownBlock ∨ v'.ownBlock = some ((w4.alloc (.cells #[.slice A2 (pm z) c2] 60)).alloc (.cells #[.slice A2 (pm z) c2] 60)).heap.size := hblk.imp_right (fun h => h.trans (by simp))
  have hki2 : ∀ i, i < j + 1 → KI (w.heap.size + 2) w' v' (W (9 + i)) ((fun i => if i = j then (A2, c2) else cs i) i).1 ((fun i => if i = j then (A2, c2) else cs i) i).2 := by
    intro i hi
    by_cases e : i = j
    · subst e
      simp only [if_true]
      rw [HZ.out]
      obtain ⟨hI2, hA2⟩ := HI2.out
      obtain ⟨b2, o2, e2, hb2, _⟩ := hI2.cells (by have := HR.out.1.1; omega)
      have hw2 := hA2 _ e2
      have hw3 : wr.heap.size ≤ b2 := hw2
      have h0 : KI (w.heap.size + 2) w4 (.slice Av i cv) z A2 c2 := ⟨hI2, HR.out, b2, o2, e2, by omega, hb2, owns_lt hown0 b2 hw3⟩
      exact h0.grow ((Keep.alloc _ _).trans (Keep.alloc _ _)) hgrow hblk2
    · simp only [e, if_false]
      exact (hki i (by omega)).grow HK5.out hgrow hblk2
  obtain ⟨Av2, cv2, rfl, _⟩ := owns_kinds hown hki2
  have y0 := (hB1.cell 0).trans (show _ = some (Value.slice Av j cv) from rfl)
  have y1 := hB1.frozen 0
  have HF := Lib.hid (And.intro hown (And.intro hki2 (And.intro hB0 (And.intro hB1 hk6))))
  clear hown hgrow hnil hblk hblk2 hki2 hB0 hB1 hk6 hown0 hki hps q0' HI2 HO HNW HH
  go_wp2
  go_roundw
  case rel =>
    obtain ⟨f1, f2, f3, f4, f5⟩ := HF.out
    have hps2 : PS #[.slice Av j cv, .int .i64 (W 4 : Nat), .int .i64 (W 5 : Nat), .int .i64 (W 6 : Nat), .int .i64 (W 7 : Nat), .int .i64 (W 1 : Nat), .int .i64 (W 2 : Nat), .int .i64 (W 3 : Nat)] w w' := ⟨f3, f4, f5⟩
    refine ⟨_, _, _, _, _, ?_, rfl, rfl, rfl, rfl, rfl⟩
    exact ⟨j + 1, .slice Av2 (j + 1) cv2, fun i => if i = j then (A2, c2) else cs i, by omega, by go_num, ownsRow_setCell_below f1 (by show w.heap.size + 1 < w.heap.size + 2; omega) _, fun i hi => (f2 i hi).set _ (by show w.heap.size + 1 < w.heap.size + 2; omega) _, hps2.set 0 _⟩
  case measure => simp [intOf]; omega
end Go.Proofs.Ytihfejbkojhkaaa
