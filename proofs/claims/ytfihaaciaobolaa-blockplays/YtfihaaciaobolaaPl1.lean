/-
  Two tables side by side: the program's and the document's. No conditions but what is in memory.
-/
import Derived.Test.YtfihaaciaobolaaRt3
namespace Go.Proofs.Ytfihaaciaobolaa
open Go.RowKit Go.Flo Go.Bit Go.Bmp
set_option maxRecDepth 100000

theorem ents_over {w w' : World} {own : List Nat} {A : Option Addr} {n cap B : Nat} {E : Nat → Ent} (h : Ents w [] A n cap E) (hg : 0 < n → ∃ g, A = some ⟨g, 0, none⟩ ∧ B ≤ g) (ho : ∀ k ∈ own, k < B) (hk : Keep own w w') : Ents w' [] A n cap E :=
  ⟨h.nc, h.cap, fun h0 => by
    obtain ⟨b, o, h1, h2, h3, h4⟩ := h.cells h0
    obtain ⟨g, e1, e2⟩ := hg h0
    rw [h1] at e1
    injection e1 with e1
    injection e1 with e1
    have hb : b ∉ own := fun hm => by have := ho b hm; omega
    exact ⟨b, o, h1, h2, Nat.lt_of_lt_of_le h3 hk.size, fun j hj => ⟨(hk.cell (p := ⟨b, _, none⟩) h3 hb).trans (h4 j hj).1, (hk.cell (p := ⟨b, _, none⟩) h3 hb).trans (h4 j hj).2⟩⟩⟩

def TLoc.all (L : TLoc) : List Nat := [L.t, L.u.m, L.u.r, L.k.m, L.k.r]

/-- A table that was not there, all of it. -/
def TabPost2 (C : Cf) (U : Nat → Bool) (w : World) (e : Ending) (w' : World) : Prop :=
  ∃ L : TLoc, e = .returned (.pointer (some ⟨L.t, 0, none⟩)) ∧ Tbl w' L C U U ∧ (∀ k ∈ L.all, w.heap.size ≤ k) ∧ Keep [] w w'

theorem tnew_map2 {w : World} {g : Nat} {C : Cf} {m : Nat → Nat} {f : Nat → Nat → Int} (h : Lyt w g C m f) (ok : C.Ok) (L : MLoc) (n : Nat) (B : Nat → Bool) (hB : Mp w L n B) :
    Calls Try.prog 14 #[.pointer (some ⟨g, 0, none⟩), .pointer (some ⟨L.m, 0, none⟩)] w (TabPost2 C (cutB C.all B) w) := by
  have hle := ok.all_le
  have hl := blocks_l h
  obtain ⟨A, cap, hb, _⟩ := h
  have hw : Calls Try.prog 29 #[.pointer (some ⟨L.m, 0, none⟩)] w fun e w1 => ∃ W, e = .returned W ∧ Keep [] w w1 ∧ Calls Try.prog 15 #[.int .i64 C.all, W] w1 (MapPost C.all (cutB C.all B) w1) := by
    refine (mwords_any hB).mono ?_
    rintro e w1 ⟨g', cap', rfl, hr, _, hk⟩
    refine ⟨_, rfl, hk, ?_⟩
    have := of_any w1 C.all _ _ _ _ (Wrd.row hr (pack_lt B))
    rwa [clampN_nat (by omega), ofB_cut hB.tidy] at this
  refine (tnew_core _ (cutB C.all B) hb hl hw).mono ?_
  rintro e w' ⟨t, LU, LK, rfl, b1, b2, b3, k, o1, o2, o3, o4, o5, o6, o7, o8⟩
  exact ⟨⟨t, LU, LK⟩, rfl, ⟨⟨A, cap, b1⟩, b2, b3, fun _ h => h, by simp only; omega, by simp only; omega, by simp only; omega, by simp only; omega, by simp only; omega⟩, by simp [TLoc.all]; omega, k⟩

theorem TLoc.own_all (L : TLoc) : ∀ k ∈ L.own, k ∈ L.all := by
  intro k hk
  simp [TLoc.own] at hk
  simp [TLoc.all]
  omega

/-- Blocks that are not the table's have turned. -/
theorem Tbl.keepO {w w' : World} {L : TLoc} {C : Cf} {U T : Nat → Bool} {own : List Nat} (h : Tbl w L C U T) (hk : Keep own w w') (ho : ∀ k ∈ L.all, k ∉ own) : Tbl w' L C U T := by
  obtain ⟨A, cap, hb⟩ := h.blk
  exact ⟨⟨A, cap, hb.keep hk (ho _ (by simp [TLoc.all]))⟩, h.used.keep hk (ho _ (by simp [TLoc.all])) (ho _ (by simp [TLoc.all])), h.taken.keep hk (ho _ (by simp [TLoc.all])) (ho _ (by simp [TLoc.all])), h.sub, h.tur, h.tkr, h.mm, h.rm, h.rr⟩

/-- The document's table lies below B, the program's from B on. -/
structure Side (B : Nat) (L : TLoc) (R : RLoc) : Prop where
  l : ∀ k ∈ L.all, B ≤ k
  t : R.t < B
  g : R.g < B
  u : R.u < B
  k : R.k < B

section
variable {B : Nat} {L : TLoc} {R : RLoc} {w w' : World} {C : Cf} {U T Kp : Nat → Bool}
theorem Side.tbl (s : Side B L R) (h : Tbl w L C U T) (hk : Keep R.own w w') : Tbl w' L C U T :=
  h.keepO hk fun k hm ho => by
    have h1 := s.l k hm
    have h2 := s.u
    have h3 := s.k
    simp [RLoc.own] at ho
    omega

theorem Side.rtb (s : Side B L R) (h : RTb w R C U Kp) (hk : Keep L.own w w') : RTb w' R C U Kp := by
  have ho : ∀ k, k < B → k ∉ L.own := fun k hk hm => by
    have := s.l k (L.own_all k hm)
    omega
  exact h.keepO hk (ho _ s.t) (ho _ s.g) (ho _ s.u) (ho _ s.k)
end

theorem kp_self (U : Nat → Bool) : (fun _ => false) = kp U U := by
  funext i
  unfold kp
  cases U i <;> rfl

theorem Keep.left {a b : List Nat} {w w' : World} (h : Keep a w w') : Keep (a ++ b) w w' := h.mono fun _ _ hm => List.mem_append_left _ hm

theorem Keep.right {a b : List Nat} {w w' : World} (h : Keep b w w') : Keep (a ++ b) w w' := h.mono fun _ _ hm => List.mem_append_right _ hm

/-- Both play. -/
def PlyRel (w7 : World) (L : TLoc) (R : RLoc) (C : Cf) (len : Nat) (x : Value) (wr : World) : Prop :=
  ∃ (i : Nat) (U T : Nat → Bool), i ≤ len ∧ i ≤ 60 ∧ x = .int .i64 i ∧ Tbl wr L C U T ∧ RTb wr R C U (kp U T) ∧ Keep (L.own ++ R.own) w7 wr
end Go.Proofs.Ytfihaaciaobolaa
