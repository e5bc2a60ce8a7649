/-
  The document's twin of block: what a table is in memory; NewTable. No conditions but what is in memory.
-/
import Derived.Test.YtfihaaciaobolaaTb9
import Derived.Test.YtfihaaciaobolaaUnp7
import Derived.Test.YtfihaaciaobolaaR65c
import Derived.Deep.RegionWith
namespace Go.Proofs.Ytfihaaciaobolaa
open Go.RowKit Go.Flo Go.Bit Go.Bmp
set_option maxRecDepth 100000

/-- copy of one row into another from its start on. -/
theorem run_copy_rows {P : Program} {w : World} (dT sT ty elem : TypeId) (hu : P.underlying dT = some (.slice elem)) (hsz : (P.info? elem).map (·.size) = some 1)
    (g k dCap g' m sCap : Nat) (t t' : TypeId) (cap cap' : Nat) (fv fs : Nat → Value) (hg : Row w t g k cap fv) (hsrc : Row w t' g' m cap' fs) (h1 : ∀ i, (fs i).oneCell' = true) :
    ∃ w', (Builtin.copy_ #[dT, sT] ty #[.slice (some ⟨g, 0, none⟩) k dCap, .slice (some ⟨g', 0, none⟩) m sCap]).run P w = .ok (goInt (Nat.min m k)) w' ∧ Row w' t g k cap (fun i => if i < m then fs i else fv i) ∧ Keep [g] w w' := by
  by_cases h0 : Nat.min m k = 0
  · refine ⟨w, ?_, hg.congr fun i hi => ?_, Keep.refl _ _⟩
    · rw [h0]
      exact run_copy_none w dT sT ty elem _ _ _ _ _ _ hu hsz h0
    · have : ¬ i < m := by
        intro hm
        have h2 : i < Nat.min m k := Nat.lt_min.2 ⟨hm, hi⟩
        omega
      simp [this]
  · have hmk : Nat.min m k ≤ m ∧ Nat.min m k ≤ k := ⟨Nat.min_le_left _ _, Nat.min_le_right _ _⟩
    have hcs : ∀ i, i < k → (i < Nat.min m k ↔ i < m) := fun i hi => ⟨fun h => Nat.lt_of_lt_of_le h hmk.1, fun h => Nat.lt_min.2 ⟨h, hi⟩⟩
    obtain ⟨c, hcg, e1, e2, e3, hf⟩ := hg
    generalize hq : Nat.min m k = q at *
    have hlen : ((List.range q).map fun j => fs j).length = q := by simp
    have hrun := run_copy_row (P := P) w dT sT ty elem g 0 k dCap ⟨g', 0, none⟩ m sCap c t ((List.range q).map fun j => fs j) hu hsz hcg (hlen.trans hq.symm) (by
      intro j v hv
      have hj : j < q := by
        have := (List.getElem?_eq_some_iff.1 hv).1
        simpa using this
      have hv' : fs j = v := by simpa [hj] using hv
      rw [addr_add0, Nat.zero_add, hsrc.cell (by omega), hv']) (by simp; omega) (by
      intro v hv
      simp only [List.mem_map, List.mem_range] at hv
      obtain ⟨j, hj, rfl⟩ := hv
      exact h1 _)
    rw [hlen] at hrun
    refine ⟨_, hrun, ⟨_, setRow_heap w g _ _ t _ hcg, ?_, e2, e3, fun i hi => ?_⟩, Keep.setRow w g (by simp) _⟩
    · simp; omega
    · have hsp := get_splice c.toList 0 ((List.range q).map fun j => fs j) (by simp; omega) i
      unfold splice at hsp
      rw [hlen] at hsp
      rw [List.getElem?_toArray, List.append_assoc, hsp]
      by_cases hin : i < q
      · rw [if_pos (by omega)]
        simp [hin, (hcs i hi).1 hin]
      · have : ¬ i < m := fun hm => hin ((hcs i hi).2 hm)
        rw [if_neg (by omega)]
        simp only [this, if_false]
        simpa using hf i hi

/-- Where the twin's table lies. -/
structure RLoc where
  t : Nat
  g : Nat
  u : Nat
  k : Nat
  cu : Nat
  ck : Nat

def RLoc.own (R : RLoc) : List Nat := [R.u, R.k]

/-- The twin's table: U is used, Kp reserved. -/
structure RTb (w : World) (R : RLoc) (C : Cf) (U Kp : Nat → Bool) : Prop where
  blk : Blk w R.t 49 #[.pointer (some ⟨R.g, 0, none⟩), .slice (some ⟨R.u, 0, none⟩) C.all R.cu, .slice (some ⟨R.k, 0, none⟩) C.all R.ck]
  lay : ∃ A cap, RLy w R.g A cap C
  ur : Row w 4 R.u C.all R.cu (bv U)
  kr : Row w 4 R.k C.all R.ck (bv Kp)
  tidy : ∀ i, C.all ≤ i → U i = false
  tu : R.t ≠ R.u
  tk : R.t ≠ R.k
  gu : R.g ≠ R.u
  gk : R.g ≠ R.k
  uk : R.u ≠ R.k

/-- What is reserved alone. -/
def kp (U T : Nat → Bool) (i : Nat) : Bool := T i && !U i

section
variable {w w' : World} {R : RLoc} {C : Cf} {U Kp : Nat → Bool}
theorem RTb.c0 (h : RTb w R C U Kp) : w.cell? ⟨R.t, 0, none⟩ = some (.pointer (some ⟨R.g, 0, none⟩)) := (h.blk.cell 0).trans rfl

theorem RTb.c1 (h : RTb w R C U Kp) : w.cell? ⟨R.t, 1, none⟩ = some (.slice (some ⟨R.u, 0, none⟩) C.all R.cu) := (h.blk.cell 1).trans rfl

theorem RTb.c2 (h : RTb w R C U Kp) : w.cell? ⟨R.t, 2, none⟩ = some (.slice (some ⟨R.k, 0, none⟩) C.all R.ck) := (h.blk.cell 2).trans rfl

theorem RTb.keep0 (h : RTb w R C U Kp) (hk : Keep [] w w') : RTb w' R C U Kp := by
  obtain ⟨A, cap, hl⟩ := h.lay
  exact ⟨h.blk.keep hk (by simp), ⟨A, cap, hl.keep hk⟩, h.ur.keep hk (by simp), h.kr.keep hk (by simp), h.tidy, h.tu, h.tk, h.gu, h.gk, h.uk⟩

theorem RTb.dr (h : RTb w R C U Kp) (hk : Dr w w') : RTb w' R C U Kp := h.keep0 (Keep.dr hk)

theorem RTb.own_lt (h : RTb w R C U Kp) : ∀ k ∈ R.own, k < w.heap.size := by
  have h1 := h.ur.lt
  have h2 := h.kr.lt
  intro k hk
  simp only [RLoc.own, List.mem_cons, List.not_mem_nil, or_false] at hk
  rcases hk with rfl | rfl
  · exact h1
  · exact h2

/-- Blocks that are not the table's have turned. -/
theorem RTb.keepO {own : List Nat} (h : RTb w R C U Kp) (hk : Keep own w w') (h1 : R.t ∉ own) (h2 : R.g ∉ own) (h3 : R.u ∉ own) (h4 : R.k ∉ own) : RTb w' R C U Kp := by
  obtain ⟨A, cap, hl⟩ := h.lay
  exact ⟨h.blk.keep hk h1, ⟨A, cap, Blk.keep hl hk h2⟩, h.ur.keep hk h3, h.kr.keep hk h4, h.tidy, h.tu, h.tk, h.gu, h.gk, h.uk⟩

theorem RTb.setK (h : RTb w R C U Kp) (j : Nat) (b : Bool) : RTb (w.setCell ⟨R.k, j, none⟩ (.bool b)) R C U (upd Kp j b) ∧ Keep R.own w (w.setCell ⟨R.k, j, none⟩ (.bool b)) := by
  have ks : Keep [R.k] w (w.setCell ⟨R.k, j, none⟩ (.bool b)) := Keep.setCell _ _ (by simp) _
  obtain ⟨A, cap, hl⟩ := h.lay
  exact ⟨⟨h.blk.keep ks (by simp [h.tk]), ⟨A, cap, Blk.keep hl ks (by simp [h.gk])⟩, h.ur.keep ks (by simp [h.uk]), h.kr.setB j b, h.tidy, h.tu, h.tk, h.gu, h.gk, h.uk⟩, ks.one (by simp [RLoc.own])⟩

theorem RTb.setU (h : RTb w R C U Kp) (j : Nat) (hj : j < C.all) (b : Bool) : RTb (w.setCell ⟨R.u, j, none⟩ (.bool b)) R C (upd U j b) Kp ∧ Keep R.own w (w.setCell ⟨R.u, j, none⟩ (.bool b)) := by
  have ks : Keep [R.u] w (w.setCell ⟨R.u, j, none⟩ (.bool b)) := Keep.setCell _ _ (by simp) _
  obtain ⟨A, cap, hl⟩ := h.lay
  exact ⟨⟨h.blk.keep ks (by simp [h.tu]), ⟨A, cap, Blk.keep hl ks (by simp [h.gu])⟩, h.ur.setB j b, h.kr.keep ks (by simp; exact fun e => h.uk e.symm), fun i hi => by
    rw [upd_far _ _ (by omega)]
    exact h.tidy i hi, h.tu, h.tk, h.gu, h.gk, h.uk⟩, ks.one (by simp [RLoc.own])⟩

theorem RTb.congr {U' Kp' : Nat → Bool} (h : RTb w R C U Kp) (hu : U = U') (hk : Kp = Kp') : RTb w R C U' Kp' := by
  subst hu hk
  exact h
end

theorem boolsize : (Try.prog.info? 4).map (·.size) = some 1 := by kernel_rfl

/-- A table of the twin that was not there. -/
def RNewPost (C : Cf) (U : Nat → Bool) (w : World) (e : Ending) (w' : World) : Prop :=
  ∃ R : RLoc, e = .returned (.pointer (some ⟨R.t, 0, none⟩)) ∧ RTb w' R C U (fun _ => false) ∧ (∀ k ∈ R.own, w.heap.size ≤ k) ∧ Keep [] w w'

/-- What NewTable makes first. -/
theorem rnew_world (w : World) (g K x y : Nat) (hxy : (x = w.heap.size ∧ y = w.heap.size + 1) ∨ (x = w.heap.size + 1 ∧ y = w.heap.size)) (hK : K ≤ 1000) (Z : Array Value) (hm : ∀ W : World, Row (W.alloc (.cells Z 4)) 4 W.heap.size K K (fun _ => .bool false)) (W3 : World)
    (hW : W3 = (((w.alloc (.cells Z 4)).alloc (.cells Z 4)).alloc (.cells #[.pointer (some ⟨g, 0, none⟩), .slice (some ⟨x, 0, none⟩) K K, .slice (some ⟨y, 0, none⟩) K K] 49)).drew) :
    Blk W3 (w.heap.size + 1 + 1) 49 #[.pointer (some ⟨g, 0, none⟩), .slice (some ⟨x, 0, none⟩) K K, .slice (some ⟨y, 0, none⟩) K K] ∧ Row W3 4 x K K (fun _ => .bool false) ∧ Row W3 4 y K K (fun _ => .bool false) ∧ Keep [] w W3 := by
  have r1 := hm w
  generalize e1 : w.alloc (.cells Z 4) = w1 at *
  have s1 : w1.heap.size = w.heap.size + 1 := by rw [← e1]; simp
  have k1 : Keep [] w w1 := by rw [← e1]; exact Keep.alloc _ _
  have r2 := hm w1
  generalize e2 : w1.alloc (.cells Z 4) = w2 at *
  have s2 : w2.heap.size = w.heap.size + 1 + 1 := by rw [← e2]; simp [s1]
  have k2 : Keep [] w1 w2 := by rw [← e2]; exact Keep.alloc _ _
  have b3 := Blk.new w2 49 #[.pointer (some ⟨g, 0, none⟩), .slice (some ⟨x, 0, none⟩) K K, .slice (some ⟨y, 0, none⟩) K K]
  have k3 : Keep [] w2 W3 := by
    rw [hW]
    exact (Keep.alloc _ _).trans (Keep.drew _)
  have b3' : Blk W3 (w.heap.size + 1 + 1) 49 #[.pointer (some ⟨g, 0, none⟩), .slice (some ⟨x, 0, none⟩) K K, .slice (some ⟨y, 0, none⟩) K K] := by
    rw [hW, ← s2]
    exact b3.keep (own := []) (Keep.drew _) (by simp)
  rw [s1] at r2
  have r1' := (r1.keep k2 (by simp)).keep k3 (by simp)
  have r2' := r2.keep k3 (by simp)
  refine ⟨b3', ?_, ?_, (k1.trans k2).trans k3⟩
  · rcases hxy with ⟨rfl, rfl⟩ | ⟨rfl, rfl⟩
    · exact r1'
    · exact r2'
  · rcases hxy with ⟨rfl, rfl⟩ | ⟨rfl, rfl⟩
    · exact r2'
    · exact r1'

set_option maxHeartbeats 2000000 in
theorem rnew_any {w : World} {g : Nat} {A : Option Addr} {cap : Nat} {C : Cf} (h : RLy w g A cap C) (hK : C.all ≤ 1000) (gb cb m : Nat) (B : Nat → Bool) (hB : Row w 4 gb m cb (bv B)) (hm : C.all ≤ m) :
    Calls Try.prog 11 #[.pointer (some ⟨g, 0, none⟩), .slice (some ⟨gb, 0, none⟩) m cb] w (RNewPost C (cutB C.all B) w) := by
  have hmk := fun W => mk_bool C.all (by omega) W
  have q18 := (Blk.cell h 18).trans (show _ = some (Value.int .i64 C.all) from rfl)
  have hgl := Blk.lt h
  have hbl := hB.lt
  have hal : ∀ W, Keep [] w W → (W.alloc (.cells (madeCells (Value.bool false).cells (C.all * 1)) 4)).cell? ⟨g, 18, none⟩ = some (.int .i64 C.all) := fun W hW => ((Blk.keep h (hW.trans (Keep.alloc _ _)) (by simp)).cell 18).trans rfl
  have q1 := hal _ (Keep.drew w)
  have hsz : ∀ W : World, (W.alloc (.cells (madeCells (Value.bool false).cells (C.all * 1)) 4)).heap.size = W.heap.size + 1 := fun W => by simp
  have hrowm := fun W : World => Row.made W 4 (.bool false) rfl C.all (by unfold maxLen; omega)
  generalize madeCells (Value.bool false).cells (C.all * 1) = Z at *
  have HM := Lib.hid hrowm
  have HB := Lib.hid hB
  have HL := Lib.hid h
  have HZ := Lib.hid hsz
  clear hrowm hB h hsz hal
  go_enter Try.func11, Try.ntmps11
  go_wp2_with fail
  go_region_with fail
  all_goals
    (try simp only [Exit.then])
    first
    | (
      obtain ⟨W3, hW3⟩ : ∃ W3, W3 = (((w.alloc (.cells Z 4)).alloc (.cells Z 4)).alloc (.cells #[.pointer (some ⟨g, 0, none⟩), .slice (some ⟨w.heap.size, 0, none⟩) C.all C.all, .slice (some ⟨w.heap.size + 1, 0, none⟩) C.all C.all] 49)).drew := ⟨_, rfl⟩
      rw [← hW3]
      obtain ⟨hb3, hx3, hy3, hk3⟩ := rnew_world w g C.all w.heap.size (w.heap.size + 1) (by simp) hK Z HM.out W3 hW3
      have c1 : W3.cell? ⟨w.heap.size + 1 + 1, 1, none⟩ = some (.slice (some ⟨w.heap.size, 0, none⟩) C.all C.all) := hb3.cell 1
      obtain ⟨W4, hcp, hrow4, hk4⟩ := run_copy_rows 37 37 3 4 Try.underlying37 boolsize (w.heap.size) C.all C.all gb m cb 4 4 C.all cb _ _ hx3 (HB.out.keep hk3 (by simp)) (fun _ => rfl)
      have hT : RTb W4 ⟨w.heap.size + 1 + 1, g, w.heap.size, w.heap.size + 1, C.all, C.all⟩ C (cutB C.all B) (fun _ => false) := ⟨hb3.keep hk4 (by simp <;> omega), ⟨A, cap, Blk.keep (HL.out.keep hk3) hk4 (by simp <;> omega)⟩, hrow4.congr (fun i hi => by simp [bv, cutB, hi, show i < m by omega]), hy3.keep hk4 (by simp), fun i hi => by simp [cutB, show ¬ i < C.all by omega], by simp only; omega, by simp only; omega, by simp only; omega, by simp only; omega, by simp only; omega⟩
      have HF := Lib.hid (And.intro hT (hk3.since hk4 (by simp)))
      clear hW3 hb3 hx3 hy3 hk3 hrow4 hk4 hT q18 q1 hmk
      go_wp2_with fail
      go_ret
      exact ⟨⟨w.heap.size + 1 + 1, g, w.heap.size, w.heap.size + 1, C.all, C.all⟩, rfl, HF.out.1, by simp [RLoc.own], HF.out.2⟩)
    | (
      obtain ⟨W3, hW3⟩ : ∃ W3, W3 = (((w.alloc (.cells Z 4)).alloc (.cells Z 4)).alloc (.cells #[.pointer (some ⟨g, 0, none⟩), .slice (some ⟨w.heap.size + 1, 0, none⟩) C.all C.all, .slice (some ⟨w.heap.size, 0, none⟩) C.all C.all] 49)).drew := ⟨_, rfl⟩
      rw [← hW3]
      obtain ⟨hb3, hx3, hy3, hk3⟩ := rnew_world w g C.all (w.heap.size + 1) w.heap.size (by simp) hK Z HM.out W3 hW3
      have c1 : W3.cell? ⟨w.heap.size + 1 + 1, 1, none⟩ = some (.slice (some ⟨w.heap.size + 1, 0, none⟩) C.all C.all) := hb3.cell 1
      obtain ⟨W4, hcp, hrow4, hk4⟩ := run_copy_rows 37 37 3 4 Try.underlying37 boolsize (w.heap.size + 1) C.all C.all gb m cb 4 4 C.all cb _ _ hx3 (HB.out.keep hk3 (by simp)) (fun _ => rfl)
      have hT : RTb W4 ⟨w.heap.size + 1 + 1, g, w.heap.size + 1, w.heap.size, C.all, C.all⟩ C (cutB C.all B) (fun _ => false) := ⟨hb3.keep hk4 (by simp <;> omega), ⟨A, cap, Blk.keep (HL.out.keep hk3) hk4 (by simp <;> omega)⟩, hrow4.congr (fun i hi => by simp [bv, cutB, hi, show i < m by omega]), hy3.keep hk4 (by simp), fun i hi => by simp [cutB, show ¬ i < C.all by omega], by simp only; omega, by simp only; omega, by simp only; omega, by simp only; omega, by simp only; omega⟩
      have HF := Lib.hid (And.intro hT (hk3.since hk4 (by simp)))
      clear hW3 hb3 hx3 hy3 hk3 hrow4 hk4 hT q18 q1 hmk
      go_wp2_with fail
      go_ret
      exact ⟨⟨w.heap.size + 1 + 1, g, w.heap.size + 1, w.heap.size, C.all, C.all⟩, rfl, HF.out.1, by simp [RLoc.own], HF.out.2⟩)
end Go.Proofs.Ytfihaaciaobolaa
