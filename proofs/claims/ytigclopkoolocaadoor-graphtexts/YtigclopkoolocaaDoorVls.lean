/-
  Rows of values and of numbers in memory, what append makes of them; the document's twin's SameValues: out of stages 6 to 11, for seats without kinds. No conditions but what is in memory.
-/
import Derived.Test.YtigclopkoolocaaDoorOv4
import Derived.Test.YtigclopkoolocaaDoorLcf
import Derived.Deep.DeepCutAuto
import Derived.Deep.RegionWith
import Derived.Deep.RegionHeld3
import Derived.Handy
namespace Go.Flo
open Go.RowKit Go.Bit

/-- Values in memory. -/
structure Vals (w : World) (A : Option Addr) (n cap : Nat) (F : Nat → Val) : Prop where
  nc : n ≤ cap
  cap : cap ≤ 9223372036854775807
  cells : 0 < n → ∃ b o, A = some ⟨b, o, none⟩ ∧ b < w.heap.size ∧ ∀ j, j < n → w.cell? ⟨b, o + j * 5, none⟩ = some (.int .i64 (F j).K) ∧ w.cell? ⟨b, o + j * 5 + 1, none⟩ = some (.int .i64 (F j).n) ∧
    w.cell? ⟨b, o + j * 5 + 2, none⟩ = some (.int .u64 (F j).p) ∧ w.cell? ⟨b, o + j * 5 + 3, none⟩ = some (.int .u64 (F j).q) ∧ w.cell? ⟨b, o + j * 5 + 4, none⟩ = some (.int .i64 (F j).r)

theorem Vals.keep {w w' : World} {A : Option Addr} {n cap : Nat} {F : Nat → Val} (h : Vals w A n cap F) (hk : Keep [] w w') : Vals w' A n cap F :=
  ⟨h.nc, h.cap, fun h0 => by
    obtain ⟨b, o, h1, h3, h4⟩ := h.cells h0
    refine ⟨b, o, h1, Nat.lt_of_lt_of_le h3 hk.size, fun j hj => ?_⟩
    obtain ⟨e0, e1, e2, e3, e4⟩ := h4 j hj
    exact ⟨(hk.cell (p := ⟨b, _, none⟩) h3 (by simp)).trans e0, (hk.cell (p := ⟨b, _, none⟩) h3 (by simp)).trans e1, (hk.cell (p := ⟨b, _, none⟩) h3 (by simp)).trans e2, (hk.cell (p := ⟨b, _, none⟩) h3 (by simp)).trans e3, (hk.cell (p := ⟨b, _, none⟩) h3 (by simp)).trans e4⟩⟩

theorem Vals.congr {w : World} {A : Option Addr} {n cap : Nat} {F F' : Nat → Val} (h : Vals w A n cap F) (he : ∀ j, j < n → F j = F' j) : Vals w A n cap F' :=
  ⟨h.nc, h.cap, fun h0 => by
    obtain ⟨b, o, h1, h3, h4⟩ := h.cells h0
    exact ⟨b, o, h1, h3, fun j hj => by rw [← he j hj]; exact h4 j hj⟩⟩

theorem Vals.none (w : World) (F : Nat → Val) : Vals w none 0 0 F := ⟨by omega, by omega, fun h => by omega⟩

/-- A value's cells. -/
def cellsV (v : Val) : List Value := [.int .i64 v.K, .int .i64 v.n, .int .u64 v.p, .int .u64 v.q, .int .i64 v.r]

def rowV (L : List Val) : List Value := L.flatMap cellsV

theorem rowV_len (L : List Val) : (rowV L).length = L.length * 5 := by
  induction L with
  | nil => rfl
  | cons a L ih => unfold rowV at ih ⊢; rw [List.flatMap_cons, List.length_append, ih]; simp [cellsV]; omega

theorem rowV_get : ∀ (L : List Val) (j k : Nat), j < L.length → k < 5 → (rowV L)[j * 5 + k]? = (cellsV (L.getD j z0))[k]?
  | [], j, k, h, _ => by simp at h
  | a :: L, 0, k, _, hk => by
    unfold rowV
    rw [List.flatMap_cons, List.getElem?_append_left (by simp [cellsV]; omega)]
    simp
  | a :: L, j + 1, k, h, hk => by
    have := rowV_get L j k (by simpa using h) hk
    unfold rowV at this ⊢
    rw [List.flatMap_cons, List.getElem?_append_right (by simp [cellsV]; omega)]
    simp only [show (cellsV a).length = 5 from rfl]
    rw [show (j + 1) * 5 + k - 5 = j * 5 + k by omega, this]
    simp

theorem rowV_snoc (L : List Val) (v : Val) : rowV (L ++ [v]) = rowV L ++ cellsV v := by simp [rowV]

theorem owns_vals {w : World} {B : Nat} {ty : TypeId} {v : Value} {L : List Val} (h : w.ownsRow B ty 5 v L.length (rowV L)) : ∃ A c, v = .slice A L.length c ∧ Vals w A L.length c (fun i => L.getD i z0) := by
  rcases h.2 with ⟨rfl, h0⟩ | ⟨g, cap, cur, rfl, hg, hh, hn, hm, hs, ht⟩
  · have hn : L.length = 0 := by first | exact h0 | exact h0.1 | exact h0.2
    have hl : L = [] := List.length_eq_zero_iff.1 hn
    subst hl
    exact ⟨none, 0, rfl, Vals.none _ _⟩
  · unfold maxLen at hm
    refine ⟨some ⟨g, 0, none⟩, cap, rfl, hn, by omega, fun h0 => ⟨g, 0, rfl, Blk.lt (cs := cur) hh, fun j hj => ?_⟩⟩
    have key : ∀ k, k < 5 → w.cell? ⟨g, 0 + j * 5 + k, none⟩ = (cellsV (L.getD j z0))[k]? := fun k hk => by
      rw [Nat.zero_add, Blk.cell (cs := cur) hh, ← rowV_get L j k hj hk, ← ht, List.getElem?_take, if_pos (by omega)]
      simp
    exact ⟨key 0 (by omega), key 1 (by omega), key 2 (by omega), key 3 (by omega), key 4 (by omega)⟩

theorem Blk.set5 {w : World} {g : Nat} {t : TypeId} {z0 z1 z2 z3 z4 : Value} (h : Blk w g t #[z0, z1, z2, z3, z4]) (a b c d e : Value) :
    Blk (((((w.setCell ⟨g, 0, none⟩ a).setCell ⟨g, 1, none⟩ b).setCell ⟨g, 2, none⟩ c).setCell ⟨g, 3, none⟩ d).setCell ⟨g, 4, none⟩ e) g t #[a, b, c, d, e] :=
  ((((h.set_ 0 a).set_ 1 b).set_ 2 c).set_ 3 d).set_ 4 e
end Go.Flo
namespace Go.Proofs.YtigclopkoolocaaDoor
open Go.RowKit Go.Flo Go.Bit
set_option maxRecDepth 100000

theorem addr_add0 (b o j : Nat) : (⟨b, o, none⟩ : Addr).add j = ⟨b, o + j, none⟩ := by unfold Addr.add; split <;> simp_all

theorem info_of {P : Program} {t : TypeId} {z : Option Value} {s b : Nat} (h : (P.info? t).map (fun i => (i.zero, i.size, i.bytes)) = some (z, s, b)) : ∃ i, P.info? t = some i ∧ i.zero = z ∧ i.size = s ∧ i.bytes = b := by
  cases hq : P.info? t with
  | none => simp [hq] at h
  | some i =>
    simp [hq] at h
    exact ⟨i, rfl, h.1, h.2.1, h.2.2⟩

def iv (f : Nat → Int) (j : Nat) : Value := .int .i64 (f j)

/-- Behind an append to a row from B on. -/
theorem grown_keep {w0 w w' : World} {B n size : Nat} {t : TypeId} {v : Value} {xs : List Value} (h : Keep [] w0 w) (hB : w0.heap.size ≤ B) (hown : w.ownsRow B t size v n xs) (hg : w.grownBy w' v.ownBlock) : Keep [] w0 w' := by
  rcases hown.2 with ⟨rfl, _⟩ | ⟨g, cap, cur, rfl, hgB, _⟩
  · exact h.trans (Keep.grown hg (fun k _ e => by simp [Value.ownBlock] at e))
  · exact h.since (own := [g]) (Keep.grown hg (fun k _ e => by simp [Value.ownBlock] at e; simp [e])) (by simp; omega)

theorem grown_blk {w w' : World} {B n size g : Nat} {t t' : TypeId} {v : Value} {xs : List Value} {cs : Array Value} (h : Blk w g t' cs) (hB : g < B) (hown : w.ownsRow B t size v n xs) (hg : w.grownBy w' v.ownBlock) : Blk w' g t' cs := by
  rcases hown.2 with ⟨rfl, _⟩ | ⟨g', cap, cur, rfl, hgB, _⟩
  · exact h.keep (own := []) (Keep.grown hg (fun k _ e => by simp [Value.ownBlock] at e)) (by simp)
  · exact h.keep (own := [g']) (Keep.grown hg (fun k _ e => by simp [Value.ownBlock] at e; simp [e])) (by simp; omega)

theorem owns_kept {w w' : World} {B n size : Nat} {t : TypeId} {v : Value} {xs : List Value} (hown : w.ownsRow B t size v n xs) (hk : Keep [] w w') : w'.ownsRow B t size v n xs := by
  refine ⟨hown.1, ?_⟩
  rcases hown.2 with h | ⟨g, cap, cur, h1, h2, h3, h4⟩
  · exact Or.inl h
  · refine Or.inr ⟨g, cap, cur, h1, h2, ?_, h4⟩
    rw [hk.block g (by rcases Nat.lt_or_ge g w.heap.size with h | h; exact h; rw [Array.getElem?_eq_none h] at h3; cases h3) (by simp)]
    exact h3

theorem one_new6 (W : World) (v : Value) (t : TypeId) : ∀ j u, [v][j]? = some u → (W.alloc (.cells #[v] t)).cell? ((⟨W.heap.size, 0, none⟩ : Addr).add j) = some u := by
  intro j u hu
  match j, hu with
  | 0, hu =>
    rw [addr_add0]
    have := (Blk.new W t #[v]).cell 0
    rw [Nat.zero_add, this]
    simpa using hu
end Go.Proofs.YtigclopkoolocaaDoor
namespace Go.Flo
open Go.RowKit Go.Bit

theorem five_new (w : World) (x0 x1 x2 x3 x4 : Int) (t : TypeId) : ∀ j u, (cellsV ⟨x0, x1, x2, x3, x4⟩)[j]? = some u → (w.alloc (.cells #[.int .i64 x0, .int .i64 x1, .int .u64 x2, .int .u64 x3, .int .i64 x4] t)).cell? ((⟨w.heap.size, 0, none⟩ : Addr).add j) = some u := by
  intro j u hu
  rw [Go.Proofs.YtigclopkoolocaaDoor.addr_add0, Nat.zero_add, (Blk.new w t #[.int .i64 x0, .int .i64 x1, .int .u64 x2, .int .u64 x3, .int .i64 x4]).cell, ← hu]
  simp [cellsV]

/-- A block that has come since. -/
def BlkG (w1 w : World) (g : Nat) (t : TypeId) (cs : Array Value) : Prop := Blk w g t cs ∧ w1.heap.size ≤ g

theorem BlkG.new {w1 X w' : World} {t : TypeId} {cs : Array Value} (hk : Keep [] w1 X) (k : Keep [] (X.alloc (.cells cs t)) w') : BlkG w1 w' X.heap.size t cs := ⟨(Blk.new X t cs).keep k (by simp), hk.size⟩

theorem BlkG.newd {w1 X w' : World} {t : TypeId} {cs : Array Value} (hk : Keep [] w1 X) (k : Keep [] (X.alloc (.cells cs t)).drew w') : BlkG w1 w' X.heap.size t cs := ⟨(Blk.new X t cs).keep ((Keep.drew (own := []) _).trans k) (by simp), hk.size⟩

theorem BlkG.keep {w1 X w' : World} {g : Nat} {t : TypeId} {cs : Array Value} (h : BlkG w1 X g t cs) (k : Keep [] X w') : BlkG w1 w' g t cs := ⟨h.1.keep k (by simp), h.2⟩

theorem BlkG.keepd {w1 X w' : World} {g : Nat} {t : TypeId} {cs : Array Value} (h : BlkG w1 X g t cs) (k : Keep [] X.drew w') : BlkG w1 w' g t cs := h.keep ((Keep.drew (own := []) _).trans k)

/-- Are two rows of values the same? -/
def SameVs (n : Nat) (F : Nat → Val) (n' : Nat) (F' : Nat → Val) : Prop := n = n' ∧ ∀ i, i < n → sameV (F i) (F' i) = true

instance (n : Nat) (F : Nat → Val) (n' : Nat) (F' : Nat → Val) : Decidable (SameVs n F n' F') := by unfold SameVs; infer_instance

def SvRel (w : World) (n : Nat) (F F' : Nat → Val) (x : Value) (wr : World) : Prop := ∃ j : Nat, j ≤ n ∧ x = .int .i64 j ∧ (∀ i, i < j → sameV (F i) (F' i) = true) ∧ Keep [] w wr
end Go.Flo
namespace Go.Proofs.YtigclopkoolocaaDoor
open Go.RowKit Go.Flo Go.Bit
set_option maxRecDepth 100000

theorem intparts : (Tryd.prog.info? 3).map (fun i => (i.zero, i.size, i.bytes)) = some (some (.int .i64 0), 1, 8) := by kernel_rfl

theorem valpart5 : (Tryd.prog.info? 36).map (fun i => (i.zero, i.size, i.bytes)) = some (some (.agg #[.int .i64 0, .int .i64 0, .int .u64 0, .int .u64 0, .int .i64 0]), 5, 40) := by kernel_rfl

set_option maxHeartbeats 1000000 in
theorem rsvs_any (w : World) (A B : Option Addr) (n c n' c' : Nat) (F F' : Nat → Val) (h : Vals w A n c F) (h' : Vals w B n' c' F') :
    Calls Tryd.prog 19 #[.slice A n c, .slice B n' c'] w fun e w' => e = .returned (.bool (decide (SameVs n F n' F'))) ∧ Keep [] w w' := by
  have hnc := h.nc
  have hcm := h.cap
  have hnc' := h'.nc
  have hcm' := h'.cap
  by_cases hn : n = n'
  case neg =>
    rw [show decide (SameVs n F n' F') = false from decide_eq_false (fun e => hn e.1)]
    have t1 : ((n : Int) == n') = false := by simp; omega
    have t2 : ((n : Int) != n') = true := by simp; omega
    clear h h'
    go_enter Tryd.func19, Tryd.ntmps19
    go_wp2
    go_ret
    exact ⟨rfl, Keep.refl _ _⟩
  subst hn
  have HA := Lib.hid h
  have HB := Lib.hid h'
  have t1 : ((n : Int) == n) = true := by simp
  have t2 : ((n : Int) != n) = false := by simp
  clear h h'
  go_enter Tryd.func19, Tryd.ntmps19
  go_wp2
  go_loopw [13] (fun x wr => SvRel w n F F' x wr) (fun x _ => n - (intOf x).toNat)
  case atStart => exact ⟨0, by omega, rfl, fun i hi => by omega, Keep.refl _ _⟩
  case round =>
  obtain ⟨j, hj, rfl, hok, hK⟩ := hrel
  have HO := Lib.hid hok
  clear hok
  by_cases hlt : j < n
  case neg =>
    obtain rfl : j = n := by omega
    have HD := Lib.hid (show decide (SameVs j F j F') = true from decide_eq_true ⟨rfl, HO.out⟩)
    go_wp2
    go_ret
    exact ⟨by rw [HD.out]; rfl, hK⟩
  obtain ⟨bA, oA, rfl, hbA, hcA⟩ := (HA.out.keep hK).cells (by omega)
  obtain ⟨bB, oB, rfl, hbB, hcB⟩ := (HB.out.keep hK).cells (by omega)
  obtain ⟨a0, a1, a2, a3, a4⟩ := hcA j hlt
  obtain ⟨b0, b1, b2, b3, b4⟩ := hcB j hlt
  have hs : ∀ W, Calls Tryd.prog 37 #[.agg #[.int .i64 (F j).K, .int .i64 (F j).n, .int .u64 (F j).p, .int .u64 (F j).q, .int .i64 (F j).r], .agg #[.int .i64 (F' j).K, .int .i64 (F' j).n, .int .u64 (F' j).p, .int .u64 (F' j).q, .int .i64 (F' j).r]] W fun e w' => e = .returned (.bool (sameV (F j) (F' j))) ∧ Keep [] W w' := fun W => rvsame_any _ _ _ _ _ _ _ _ _ _ W
  obtain ⟨ok, hk⟩ : ∃ ok, sameV (F j) (F' j) = ok := ⟨_, rfl⟩
  rw [hk] at hs
  have HKK := Lib.hid (And.intro hk hK)
  clear hk hK hcA hcB
  generalize (F j).K = x0 at *
  generalize (F j).n = x1 at *
  generalize (F j).p = x2 at *
  generalize (F j).q = x3 at *
  generalize (F j).r = x4 at *
  generalize (F' j).K = y0 at *
  generalize (F' j).n = y1 at *
  generalize (F' j).p = y2 at *
  generalize (F' j).q = y3 at *
  generalize (F' j).r = y4 at *
  go_upto_region 6 with fail
  go_cut [13, 25] from 13 to 26 (fun s13 s25 wx => s13 = .int .i64 j ∧ s25 = .bool (!ok) ∧ Keep [] wr wx)
  case first =>
    go_wp2_with fail
    go_region_with (go_at_call 37; refine (hs _).mono ?_; rintro e w4 ⟨rfl, k4⟩)
    all_goals
      go_wp2_with fail
      go_meet
      exact ⟨rfl, rfl, (by repeat (first | exact k4 | (with_reducible refine Keep.trans ?_ (Keep.drew _)) | (with_reducible refine Keep.trans (Keep.drew _) ?_)))⟩
  case rest =>
  obtain ⟨rfl, rfl, k4⟩ := hcut
  have HK := Lib.hid (HKK.out.2.trans k4)
  have hk := HKK.out.1
  clear a0 a1 a2 a3 a4 b0 b1 b2 b3 b4 hs k4 HKK
  cases ok with
  | false =>
    have HD := Lib.hid (show decide (SameVs n F n F') = false from decide_eq_false (fun e => by have := e.2 j hlt; rw [hk] at this; cases this))
    clear hk
    go_wp2
    go_ret
    exact ⟨by rw [HD.out]; rfl, HK.out⟩
  | true =>
    have HE := Lib.hid hk
    clear hk
    go_wp2
    go_roundw
    case rel => exact ⟨j + 1, by omega, by go_num, fun i hi => by
      rcases Nat.lt_or_ge i j with h | h
      · exact HO.out i h
      · rw [show i = j by omega]; exact HE.out, HK.out⟩
    case measure => simp [intOf]; omega
end Go.Proofs.YtigclopkoolocaaDoor
