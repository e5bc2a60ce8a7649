/-
  What LayoutBack asks, in plain numbers; rows that are appended to. No conditions but each theorem's own.
-/
import Derived.Test.YtihfejbkojhkaaaLay5
import Derived.Test.YtihfejbkojhkaaaR64
import Derived.Test.YtihfejbkojhkaaaR69
import Derived.Test.YtihfejbkojhkaaaTold
import Derived.Test.YtihfejbkojhkaaaLps2
import Derived.ArgAppend
namespace Go.Proofs.Ytihfejbkojhkaaa
open Go.RowKit Go.Flo Go.Bit
set_option maxRecDepth 100000
set_option linter.unusedVariables false

/-- How big a block is. -/
def szOf (C : Cf) (b : Nat) : Nat := 2 * 2 ^ C.cls b
theorem szOf_eq (C : Cf) (b : Nat) : szOf C b = if b < C.f1 then 2 else if b < C.f2 then 4 else if b < C.f3 then 8 else 16 := by
  unfold szOf Cf.cls
  split
  · rfl
  · split
    · rfl
    · split <;> rfl
theorem at_zero {C : Cf} (ok : C.Ok) : C.at_ 0 = C.s0 := by
  have := ok.all
  unfold Cf.at_ Cf.s3 Cf.s2 Cf.s1 Cf.f1 Cf.f2 Cf.f3
  (repeat' split) <;> omega
theorem at_next {C : Cf} {x y : Nat} (h : x < y) (hy : y < C.all) : C.at_ x + szOf C x ≤ C.at_ y := by
  rw [szOf_eq]
  unfold Cf.all at hy
  unfold Cf.at_ Cf.s3 Cf.s2 Cf.s1 Cf.f1 Cf.f2 Cf.f3
  (repeat' split) <;> omega
theorem at_le {C : Cf} {x y : Nat} (h : x ≤ y) (hy : y < C.all) : C.at_ x ≤ C.at_ y := by
  rcases Nat.lt_or_ge x y with h1 | h1
  · have := at_next h1 hy; omega
  · rw [show x = y by omega]; omega
theorem cls_le {C : Cf} {x y : Nat} (h : x ≤ y) : C.cls x ≤ C.cls y := by
  unfold Cf.cls Cf.f1 Cf.f2 Cf.f3
  (repeat' split) <;> omega
theorem at_last {C : Cf} (ok : C.Ok) : C.at_ (C.all - 1) + szOf C (C.all - 1) ≤ C.words := by
  have h1 := ln_ge (C.s3 + C.b3 * 16)
  have h2 : C.words = ln (C.s3 + C.b3 * 16) := rfl
  have := ok.all
  rw [szOf_eq, h2]
  refine Nat.le_trans ?_ h1
  unfold Cf.at_ Cf.s3 Cf.s2 Cf.s1 Cf.f1 Cf.f2 Cf.f3 Cf.all
  (repeat' split) <;> omega
theorem bits_last {C : Cf} (ok : C.Ok) : C.bits + (C.all - 1) / 64 < C.log := by
  have h1 := ln_ge (C.bits + (C.all + 63) / 64)
  have h2 : C.log = ln (C.bits + (C.all + 63) / 64) := rfl
  have h3 : 1 ≤ C.all := ok.all
  omega
theorem roots_last {C : Cf} : C.roots + C.r + C.wk ≤ C.bits := ln_ge _
theorem words_mod (C : Cf) : C.words % 8 = 0 := ln_mod _
theorem log_mod (C : Cf) : C.log % 8 = 0 := ln_mod _
theorem s0_mod (C : Cf) : C.s0 % 8 = 0 := ln_mod _
theorem roots_ge (C : Cf) : 9 + C.n ≤ C.roots := ln_ge _

/-- The super words, and two more. -/
def bckW (C : Cf) (m : Nat → Nat) (f : Nat → Nat → Int) (j : Nat) : Nat := if j < 9 + C.n then supW C m f j else if j = 9 + C.n then 1 else 2
def bckV (C : Cf) (m : Nat → Nat) (f : Nat → Nat → Int) (j : Nat) : Value := .int .u64 (bckW C m f j : Nat)
theorem bckW_lt {C : Cf} {m : Nat → Nat} {f : Nat → Nat → Int} (ok : C.Ok) (hk : MayKs C.n m f) (j : Nat) : bckW C m f j < 18446744073709551616 := by
  unfold bckW
  split
  · rename_i h; exact supW_lt ok hk h
  · split <;> omega
theorem bckW_low {C : Cf} {m : Nat → Nat} {f : Nat → Nat → Int} {j : Nat} (hj : j < 9 + C.n) : bckW C m f j = supW C m f j := if_pos hj
theorem bck_kind {C : Cf} {m : Nat → Nat} {f : Nat → Nat → Int} {i : Nat} (hi : i < C.n) : bckW C m f (9 + i) = kw (m i) (f i) := by rw [bckW_low (by omega), supW_kind]
theorem bck_same {C : Cf} {m : Nat → Nat} {f : Nat → Nat → Int} (hk : MayKs C.n m f) : SameKs C.n m f C.n (fun i => pm (bckW C m f (9 + i))) (fun i => pf (bckW C m f (9 + i))) := by
  refine ⟨rfl, fun i hi => ?_⟩
  have hm := hk.2.2 i hi
  have hf : ∀ j, j < m i → Fld (f i j) := fun j hj => (hm.2.2.1 j hj).fld
  dsimp only
  rw [bck_kind hi, kw_pm hm.2.1]
  exact ⟨rfl, fun j hj => (kw_pf hm.2.1 hf hj).symm⟩
theorem sumF_congr {f f' : Nat → Int} : ∀ k, (∀ j, j < k → f j = f' j) → sumF f k = sumF f' k
  | 0, _ => rfl
  | k + 1, h => by rw [sumF, sumF, sumF_congr k (fun j hj => h j (by omega)), h k (by omega)]
theorem bck_ok {C : Cf} {m : Nat → Nat} {f : Nat → Nat → Int} (ok : C.Ok) (hk : MayKs C.n m f) : POk (9 + C.n + 2) (bckW C m f) := by
  have e : ∀ j, j < 9 → bckW C m f j = supW C m f j := fun j hj => bckW_low (by omega)
  have e8 : bckW C m f 8 = C.n := e 8 (by omega)
  refine ⟨by rw [e8]; omega, e 0 (by omega), by rw [e8]; exact ok.n, fun i hi => ?_, ⟨by rw [e8]; exact ok.n1, by rw [e8]; exact ok.n, fun i hi => ?_⟩, ?_, ?_, ?_⟩
  · rw [e8] at hi
    have hm := hk.2.2 i hi
    rw [bck_kind hi]
    exact kw_up hm.2.1 (fun j hj => (hm.2.2.1 j hj).fld)
  · rw [e8] at hi
    have hm := hk.2.2 i hi
    have hs := (bck_same hk).2 i hi
    obtain ⟨h1, h2⟩ := hs
    dsimp only at h1 h2 ⊢
    rw [← h1]
    exact ⟨hm.1, hm.2.1, fun j hj => by rw [← h2 j hj]; exact hm.2.2.1 j hj, by rw [← sumF_congr (m i) h2]; exact hm.2.2.2⟩
  · rw [e 4 (by omega), e 5 (by omega), e 6 (by omega), e 7 (by omega)]
    show MayB (C.b0 : Nat) (C.b1 : Nat) (C.b2 : Nat) (C.b3 : Nat)
    have := ok.b0; have := ok.b1; have := ok.b2; have := ok.b3; have := ok.all
    unfold MayB
    omega
  · rw [e 1 (by omega), e 2 (by omega)]
    show MayR (C.r : Nat) (C.wk : Nat)
    have := ok.r; have := ok.r1; have := ok.wk
    unfold MayR
    omega
  · rw [e 3 (by omega)]
    show MayL (C.lg : Nat)
    have := ok.lg; have := ok.lg1; have := ok.lg8
    unfold MayL
    omega

theorem two_new (W : World) (u v : Value) (t : TypeId) : ∀ j z, [u, v][j]? = some z → (W.alloc (.cells #[u, v] t)).cell? ((⟨W.heap.size, 0, none⟩ : Addr).add j) = some z := by
  intro j z hz
  rw [addr_add0, Nat.zero_add]
  have := (Blk.new W t #[u, v]).cell j
  rw [this]
  match j, hz with
  | 0, hz => simpa using hz
  | 1, hz => simpa using hz
/-- Two words more, in place. -/
theorem room_row {w : World} {g c : Nat} {C : Cf} {m : Nat → Nat} {f : Nat → Nat → Int} (h : Row w 51 g (9 + C.n) c (supV C m f)) (hr : 9 + C.n + 2 ≤ c) :
    Row (w.setCells g (0 + (9 + C.n) * 1) [.int .u64 1, .int .u64 2]) 51 g (9 + C.n + 2) c (bckV C m f) ∧ Row (w.setCells g (0 + (9 + C.n) * 1) [.int .u64 1, .int .u64 2]) 51 g (9 + C.n) c (supV C m f) ∧ Keep [g] w (w.setCells g (0 + (9 + C.n) * 1) [.int .u64 1, .int .u64 2]) := by
  simp only [World.setCells, Nat.zero_add, Nat.mul_one]
  have hk : Keep [g] w ((w.setCell ⟨g, 9 + C.n, none⟩ (.int .u64 1)).setCell ⟨g, 9 + C.n + 1, none⟩ (.int .u64 2)) := (Keep.setCell _ _ (by simp) _).trans (Keep.setCell _ _ (by simp) _)
  obtain ⟨a, h1, h2, h3, h4, h5⟩ := h
  have hb : Blk w g 51 a := h1
  have hb2 := (hb.set_ (9 + C.n) (.int .u64 1)).set_ (9 + C.n + 1) (.int .u64 2)
  refine ⟨⟨_, hb2, by simpa using h2, hr, h4, fun i hi => ?_⟩, ⟨_, hb2, by simpa using h2, h3, h4, fun i hi => ?_⟩, hk⟩
  · rw [Array.getElem?_setIfInBounds, Array.getElem?_setIfInBounds]
    by_cases e1 : 9 + C.n + 1 = i
    · subst e1
      have : 9 + C.n + 1 < a.size := by omega
      have hx : ¬ 9 + C.n + 1 < 9 + C.n := by omega
      simp [this, bckV, bckW, hx]
    · by_cases e2 : 9 + C.n = i
      · subst e2
        have : 9 + C.n < a.size := by omega
        simp [this, bckV, bckW]
      · have hl : i < 9 + C.n := by omega
        simp only [e1, e2, if_false, h5 i hl]
        simp [bckV, bckW, hl, supV]
  · rw [Array.getElem?_setIfInBounds, Array.getElem?_setIfInBounds]
    have e1 : ¬ 9 + C.n + 1 = i := by omega
    have e2 : ¬ 9 + C.n = i := by omega
    simp only [e1, e2, if_false]
    exact h5 i hi
theorem row_spare {w : World} {t : TypeId} {g n c : Nat} {F : Nat → Value} (h : Row w t g n c F) (k : Nat) (hk : k < c) : (w.cell? ⟨g, k, none⟩).isSome = true ∧ w.frozen? ⟨g, k, none⟩ = false := by
  refine ⟨?_, h.frozen k⟩
  obtain ⟨a, h1, h2, _⟩ := h
  have hb : Blk w g t a := h1
  rw [hb.cell k]
  simp; omega
theorem bck_list (C : Cf) (m : Nat → Nat) (f : Nat → Nat → Int) : (List.range (9 + C.n)).map (supV C m f) ++ [.int .u64 1, .int .u64 2] = (List.range (9 + C.n + 2)).map (bckV C m f) := by
  rw [List.range_succ, List.range_succ, List.map_append, List.map_append, List.append_assoc]
  congr 1
  · apply List.map_congr_left
    intro i hi
    simp only [List.mem_range] at hi
    simp [bckV, bckW, hi, supV]
  · have hx : ¬ 9 + C.n + 1 < 9 + C.n := by omega
    simp [bckV, bckW, hx]
end Go.Proofs.Ytihfejbkojhkaaa
