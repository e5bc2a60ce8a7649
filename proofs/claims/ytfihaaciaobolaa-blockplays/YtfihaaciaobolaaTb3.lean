/-
  Package block: New. No conditions but what a layout and a map are.
-/
import Derived.Test.YtfihaaciaobolaaTb2
import Derived.Deep.RegionWith
namespace Go.Proofs.Ytfihaaciaobolaa
open Go.RowKit Go.Flo Go.Bit Go.Bmp
set_option maxRecDepth 100000

/-- Bits beyond n don't count. -/
def cutB (n : Nat) (B : Nat → Bool) (i : Nat) : Bool := decide (i < n) && B i

theorem ofB_cut {n m : Nat} {B : Nat → Bool} (ht : ∀ i, m ≤ i → B i = false) : ofB n (nw m) (pack B) = cutB n B := by
  funext i
  unfold ofB cutB
  by_cases h : i < n
  · rw [pack_bit]
    rw [show 64 * (i / 64) + i % 64 = i by omega]
    have h2 : i % 64 < 64 := Nat.mod_lt _ (by decide)
    by_cases h1 : i / 64 < nw m
    · simp [h, h1, h2]
    · have : m ≤ i := by
        rcases Nat.lt_or_ge i m with hl | hl
        · exact absurd (nw_lt hl) h1
        · exact hl
      simp [h, h1, ht i this]
  · simp [h]

/-- A table that was not there. -/
def TabPost (C : Cf) (U : Nat → Bool) (w : World) (e : Ending) (w' : World) : Prop :=
  ∃ L : TLoc, e = .returned (.pointer (some ⟨L.t, 0, none⟩)) ∧ Tbl w' L C U U ∧ (∀ k ∈ L.own, w.heap.size ≤ k) ∧ Keep [] w w'

theorem wp_build_eq {P : Program} {o : Oper} {a : Act} {w : World} {K : Act → World → Prop} {Q : Exit → Act → World → Prop} (t : TypeId) (parts : Array (Nat × Operand)) (ho : o.op = .build t parts) (cells : Array Value)
    (hf : P.built t (parts.map fun (i, x) => (i, a.eval x)).toList = some cells) (h : K (a.put o.dst (.agg cells)) w) : o.wp P a w K Q := by
  unfold Oper.wp execOp
  simp only [ho, Sem.run_bind, run_build w t _ cells hf, Result.andThen_ok]
  exact h

theorem wp_box_eq {P : Program} {o : Oper} {a : Act} {w w' : World} {K : Act → World → Prop} {Q : Exit → Act → World → Prop} (t : TypeId) (x : Operand) (ho : o.op = .box t x) (v v' : Value)
    (hx : a.eval x = v) (hr : (Instr.box t v).run P w = .ok v' w') (h : K (a.put o.dst v') w') : o.wp P a w K Q := by
  unfold Oper.wp execOp
  simp only [ho, Sem.run_bind, hx, hr, Result.andThen_ok]
  exact h

theorem tab_build (A p q : Option Addr) (n cap : Nat) (x1 x2 x3 x4 x5 x6 x7 x8 x9 x10 x11 x12 x13 x14 x15 x16 x17 x18 x19 x20 : Int) : Try.prog.built 82 [(0, .agg #[.slice A n cap, .int .i64 x1, .int .i64 x2, .int .i64 x3, .int .i64 x4, .int .i64 x5, .int .i64 x6, .int .i64 x7, .int .i64 x8, .int .i64 x9, .int .i64 x10, .int .i64 x11, .int .i64 x12, .int .i64 x13, .int .i64 x14, .int .i64 x15, .int .i64 x16, .int .i64 x17, .int .i64 x18, .int .i64 x19, .int .i64 x20]), (1, .pointer p), (2, .pointer q)] = some #[.slice A n cap, .int .i64 x1, .int .i64 x2, .int .i64 x3, .int .i64 x4, .int .i64 x5, .int .i64 x6, .int .i64 x7, .int .i64 x8, .int .i64 x9, .int .i64 x10, .int .i64 x11, .int .i64 x12, .int .i64 x13, .int .i64 x14, .int .i64 x15, .int .i64 x16, .int .i64 x17, .int .i64 x18, .int .i64 x19, .int .i64 x20, .pointer p, .pointer q] := by kernel_rfl

theorem tab_box (W : World) (A p q : Option Addr) (n cap : Nat) (x1 x2 x3 x4 x5 x6 x7 x8 x9 x10 x11 x12 x13 x14 x15 x16 x17 x18 x19 x20 : Int) : (Instr.box 82 (.agg #[.slice A n cap, .int .i64 x1, .int .i64 x2, .int .i64 x3, .int .i64 x4, .int .i64 x5, .int .i64 x6, .int .i64 x7, .int .i64 x8, .int .i64 x9, .int .i64 x10, .int .i64 x11, .int .i64 x12, .int .i64 x13, .int .i64 x14, .int .i64 x15, .int .i64 x16, .int .i64 x17, .int .i64 x18, .int .i64 x19, .int .i64 x20, .pointer p, .pointer q])).run Try.prog W = .ok (.pointer (some ⟨W.heap.size, 0, none⟩)) (W.alloc (.cells #[.slice A n cap, .int .i64 x1, .int .i64 x2, .int .i64 x3, .int .i64 x4, .int .i64 x5, .int .i64 x6, .int .i64 x7, .int .i64 x8, .int .i64 x9, .int .i64 x10, .int .i64 x11, .int .i64 x12, .int .i64 x13, .int .i64 x14, .int .i64 x15, .int .i64 x16, .int .i64 x17, .int .i64 x18, .int .i64 x19, .int .i64 x20, .pointer p, .pointer q] 82)) := by kernel_rfl

theorem lay_size : (Try.prog.info? 75).map (·.size) = some 21 := by kernel_rfl

set_option maxHeartbeats 1000000 in
theorem tnew_core {w : World} {g n cap N : Nat} {A : Option Addr} {x1 x2 x3 x4 x5 x6 x7 x8 x9 x10 x11 x12 x13 x14 x15 x16 x17 x18 x19 x20 : Int} (P : Value) (U : Nat → Bool)
    (hb0 : Blk w g 75 #[.slice A n cap, .int .i64 x1, .int .i64 x2, .int .i64 x3, .int .i64 x4, .int .i64 x5, .int .i64 x6, .int .i64 x7, .int .i64 x8, .int .i64 x9, .int .i64 x10, .int .i64 x11, .int .i64 x12, .int .i64 x13, .int .i64 x14, .int .i64 x15, .int .i64 x16, .int .i64 x17, .int .i64 x18, .int .i64 x19, .int .i64 x20])
    (hl : Calls Try.prog 35 #[.pointer (some ⟨g, 0, none⟩)] w fun e w' => e = .returned (.int .i64 N) ∧ w = w')
    (hw : Calls Try.prog 29 #[P] w fun e w1 => ∃ W, e = .returned W ∧ Keep [] w w1 ∧ Calls Try.prog 15 #[.int .i64 N, W] w1 (MapPost N U w1)) :
    Calls Try.prog 14 #[.pointer (some ⟨g, 0, none⟩), P] w fun e w' => ∃ (t : Nat) (LU LK : MLoc), e = .returned (.pointer (some ⟨t, 0, none⟩)) ∧
      Blk w' t 82 #[.slice A n cap, .int .i64 x1, .int .i64 x2, .int .i64 x3, .int .i64 x4, .int .i64 x5, .int .i64 x6, .int .i64 x7, .int .i64 x8, .int .i64 x9, .int .i64 x10, .int .i64 x11, .int .i64 x12, .int .i64 x13, .int .i64 x14, .int .i64 x15, .int .i64 x16, .int .i64 x17, .int .i64 x18, .int .i64 x19, .int .i64 x20, .pointer (some ⟨LU.m, 0, none⟩), .pointer (some ⟨LK.m, 0, none⟩)] ∧ Mp w' LU N U ∧ Mp w' LK N U ∧ Keep [] w w' ∧ w.heap.size ≤ LU.r ∧ w.heap.size ≤ LU.m ∧ LU.m < LK.m ∧ LU.m < LK.r ∧ LU.r < LK.m ∧ LU.r < LK.r ∧ LK.m < t ∧ LK.r < t := by
  go_enter Try.func14, Try.ntmps14
  go_wp2_with fail
  (with_reducible refine hl.mono ?_)
  rintro e w' ⟨rfl, rfl⟩
  go_wp2_with fail
  (with_reducible refine hw.mono ?_)
  rintro e w1 ⟨W, rfl, h1, ho⟩
  go_wp2_with fail
  (with_reducible refine ho.mono ?_)
  rintro e w2 ⟨LU, rfl, hU, lm, lr, k2⟩
  clear ho hw hl
  have hb := hb0.keep (h1.trans k2) (by simp)
  have hs1 := h1.size
  have hs2 := k2.size
  have hUm : LU.m < w2.heap.size := hU.blk.lt
  have hUr : LU.r < w2.heap.size := hU.row.lt
  have hcp : ∀ X, Keep [] w2 X → Calls Try.prog 41 #[.pointer (some ⟨LU.m, 0, none⟩)] X (MapPost N U X) := fun X hX => mcopy_any (hU.keep0 hX)
  have HU := Lib.hid hU
  have HB := Lib.hid hb
  have HC := Lib.hid hcp
  have HK := Lib.hid (h1.trans k2)
  clear hU hb hb0 hcp
  go_wp2_with fail
  refine wp_region_any (by kernel_rfl) ?_
  change wpAny _ _ _ _ _ _ _ (World.drew w2)
  refine wpAny_take (i := 0) (v := .pointer (some ⟨g, 0, none⟩)) rfl (by kernel_rfl) (by kernel_rfl) (by kernel_rfl) (fun _ _ _ h => h) (Or.inl ⟨by rfl, by intro W; go_simp <;> with_reducible rfl⟩) ?_
  refine wpAny_take (i := 1) (v := .pointer (some ⟨g, 0, none⟩)) rfl (by kernel_rfl) (by kernel_rfl) (by kernel_rfl) (fun _ _ _ h => h) (Or.inl ⟨by rfl, by intro W; go_simp <;> with_reducible rfl⟩) ?_
  refine wpAny_take (i := 3) (v := .pointer (some ⟨LU.m, 0, none⟩)) rfl (by kernel_rfl) (by kernel_rfl) (by kernel_rfl) (fun _ _ _ h => h) (Or.inl ⟨by rfl, by intro W; go_simp <;> with_reducible rfl⟩) ?_
  refine wpAny_take (i := 4) (v := .pointer (some ⟨LU.m, 0, none⟩)) rfl (by kernel_rfl) (by kernel_rfl) (by kernel_rfl) (fun _ _ _ h => h) (Or.inl ⟨by rfl, by intro W; go_simp <;> with_reducible rfl⟩) ?_
  refine wpAny_ready (rs := [2, 5]) (by kernel_rfl) (by simp) (AllReady.cons rfl (fun K hK => ?_) (AllReady.cons rfl (fun K hK => ?_) AllReady.nil))
  · rw [if_pos (by kernel_rfl)]
    refine wp_load_row 75 (.tmp 14) rfl g rfl 75 #[.slice A n cap, .int .i64 x1, .int .i64 x2, .int .i64 x3, .int .i64 x4, .int .i64 x5, .int .i64 x6, .int .i64 x7, .int .i64 x8, .int .i64 x9, .int .i64 x10, .int .i64 x11, .int .i64 x12, .int .i64 x13, .int .i64 x14, .int .i64 x15, .int .i64 x16, .int .i64 x17, .int .i64 x18, .int .i64 x19, .int .i64 x20] (0, 0) _ (HB.out.keep (own := []) (Keep.drew _) (by simp)) Try.underlying75 rfl lay_size ?_
    refine hK _ _ ?_
    clear hK K
    refine wpAny_ready (rs := [5]) (by kernel_rfl) (by simp) (AllReady.cons rfl (fun K hK => ?_) AllReady.nil)
    rw [if_pos (by kernel_rfl)]
    go_simp; go_wp2_with (go_at_call 41; refine (HC.out _ (by repeat (first | (with_reducible refine Keep.trans ?_ (Keep.drew _)) | exact Keep.refl _ _ | exact Keep.dr (Dr.drewN _ _)))).mono ?_; rintro e w5 ⟨LK, rfl, hK5, lm5, lr5, k5⟩; have k5' : Keep [] w2 w5 := Keep.trans (by repeat (first | (with_reducible refine Keep.trans ?_ (Keep.drew _)) | exact Keep.refl _ _ | exact Keep.dr (Dr.drewN _ _))) k5)
    have hU5 := HU.out.keep0 k5'
    have hs5 := k5'.size
    have hz5 : w2.heap.size ≤ LK.m ∧ w2.heap.size ≤ LK.r := ⟨lm5, lr5⟩
    have hKm : LK.m < w5.heap.size := hK5.blk.lt
    have hKr : LK.r < w5.heap.size := hK5.row.lt
    have hbT := Blk.new w5 82 #[.slice A n cap, .int .i64 x1, .int .i64 x2, .int .i64 x3, .int .i64 x4, .int .i64 x5, .int .i64 x6, .int .i64 x7, .int .i64 x8, .int .i64 x9, .int .i64 x10, .int .i64 x11, .int .i64 x12, .int .i64 x13, .int .i64 x14, .int .i64 x15, .int .i64 x16, .int .i64 x17, .int .i64 x18, .int .i64 x19, .int .i64 x20, .pointer (some ⟨LU.m, 0, none⟩), .pointer (some ⟨LK.m, 0, none⟩)]
    have kT : Keep [] w5 (w5.alloc (.cells #[.slice A n cap, .int .i64 x1, .int .i64 x2, .int .i64 x3, .int .i64 x4, .int .i64 x5, .int .i64 x6, .int .i64 x7, .int .i64 x8, .int .i64 x9, .int .i64 x10, .int .i64 x11, .int .i64 x12, .int .i64 x13, .int .i64 x14, .int .i64 x15, .int .i64 x16, .int .i64 x17, .int .i64 x18, .int .i64 x19, .int .i64 x20, .pointer (some ⟨LU.m, 0, none⟩), .pointer (some ⟨LK.m, 0, none⟩)] 82)) := Keep.alloc _ _
    have HF := Lib.hid (And.intro hbT (And.intro (hU5.keep0 kT) (And.intro (hK5.keep0 kT) (HK.out.trans (k5'.trans kT)))))
    refine wpAny_ready (rs := [6]) (by kernel_rfl) (by simp) (AllReady.cons rfl (fun K hK => ?_) AllReady.nil)
    rw [if_pos (by kernel_rfl)]
    refine wp_build_eq 82 #[(0, .tmp 15), (1, .tmp 16), (2, .tmp 18)] rfl #[.slice A n cap, .int .i64 x1, .int .i64 x2, .int .i64 x3, .int .i64 x4, .int .i64 x5, .int .i64 x6, .int .i64 x7, .int .i64 x8, .int .i64 x9, .int .i64 x10, .int .i64 x11, .int .i64 x12, .int .i64 x13, .int .i64 x14, .int .i64 x15, .int .i64 x16, .int .i64 x17, .int .i64 x18, .int .i64 x19, .int .i64 x20, .pointer (some ⟨LU.m, 0, none⟩), .pointer (some ⟨LK.m, 0, none⟩)] (by kernel_rfl) ?_
    refine hK _ _ ?_
    clear hK K
    refine wpAny_ready (rs := [7]) (by kernel_rfl) (by simp) (AllReady.cons rfl (fun K hK => ?_) AllReady.nil)
    rw [if_pos (by kernel_rfl)]
    refine wp_box_eq 82 (.tmp 19) rfl (.agg #[.slice A n cap, .int .i64 x1, .int .i64 x2, .int .i64 x3, .int .i64 x4, .int .i64 x5, .int .i64 x6, .int .i64 x7, .int .i64 x8, .int .i64 x9, .int .i64 x10, .int .i64 x11, .int .i64 x12, .int .i64 x13, .int .i64 x14, .int .i64 x15, .int .i64 x16, .int .i64 x17, .int .i64 x18, .int .i64 x19, .int .i64 x20, .pointer (some ⟨LU.m, 0, none⟩), .pointer (some ⟨LK.m, 0, none⟩)]) _ (by kernel_rfl) (tab_box w5 A (some ⟨LU.m, 0, none⟩) (some ⟨LK.m, 0, none⟩) n cap x1 x2 x3 x4 x5 x6 x7 x8 x9 x10 x11 x12 x13 x14 x15 x16 x17 x18 x19 x20) ?_
    refine hK _ _ ?_
    clear hK K
    refine wpAny_ready (rs := [8]) (by kernel_rfl) (by simp) (AllReady.cons rfl (fun K hK => ?_) AllReady.nil)
    rw [if_pos (by kernel_rfl)]
    go_simp
    refine hK _ _ ?_
    clear hK K
    refine wpAny_done (by kernel_rfl) ?_ _
    clear kT hbT hU5 hK5 k5 k5'
    go_wp2_with fail
    go_ret
    exact ⟨w5.heap.size, LU, LK, rfl, HF.out.1, HF.out.2.1, HF.out.2.2.1, HF.out.2.2.2, by omega, by omega, by omega, by omega, by omega, by omega, by omega, by omega⟩
  · rw [if_pos (by kernel_rfl)]
    go_simp; go_wp2_with (go_at_call 41; refine (HC.out _ (by repeat (first | (with_reducible refine Keep.trans ?_ (Keep.drew _)) | exact Keep.refl _ _ | exact Keep.dr (Dr.drewN _ _)))).mono ?_; rintro e w5 ⟨LK, rfl, hK5, lm5, lr5, k5⟩; have k5' : Keep [] w2 w5 := Keep.trans (by repeat (first | (with_reducible refine Keep.trans ?_ (Keep.drew _)) | exact Keep.refl _ _ | exact Keep.dr (Dr.drewN _ _))) k5)
    refine wpAny_ready (rs := [2]) (by kernel_rfl) (by simp) (AllReady.cons rfl (fun K hK => ?_) AllReady.nil)
    rw [if_pos (by kernel_rfl)]
    refine wp_load_row 75 (.tmp 14) rfl g rfl 75 #[.slice A n cap, .int .i64 x1, .int .i64 x2, .int .i64 x3, .int .i64 x4, .int .i64 x5, .int .i64 x6, .int .i64 x7, .int .i64 x8, .int .i64 x9, .int .i64 x10, .int .i64 x11, .int .i64 x12, .int .i64 x13, .int .i64 x14, .int .i64 x15, .int .i64 x16, .int .i64 x17, .int .i64 x18, .int .i64 x19, .int .i64 x20] (0, 0) _ (HB.out.keep (own := []) k5' (by simp)) Try.underlying75 rfl lay_size ?_
    refine hK _ _ ?_
    clear hK K
    have hU5 := HU.out.keep0 k5'
    have hs5 := k5'.size
    have hz5 : w2.heap.size ≤ LK.m ∧ w2.heap.size ≤ LK.r := ⟨lm5, lr5⟩
    have hKm : LK.m < w5.heap.size := hK5.blk.lt
    have hKr : LK.r < w5.heap.size := hK5.row.lt
    have hbT := Blk.new w5 82 #[.slice A n cap, .int .i64 x1, .int .i64 x2, .int .i64 x3, .int .i64 x4, .int .i64 x5, .int .i64 x6, .int .i64 x7, .int .i64 x8, .int .i64 x9, .int .i64 x10, .int .i64 x11, .int .i64 x12, .int .i64 x13, .int .i64 x14, .int .i64 x15, .int .i64 x16, .int .i64 x17, .int .i64 x18, .int .i64 x19, .int .i64 x20, .pointer (some ⟨LU.m, 0, none⟩), .pointer (some ⟨LK.m, 0, none⟩)]
    have kT : Keep [] w5 (w5.alloc (.cells #[.slice A n cap, .int .i64 x1, .int .i64 x2, .int .i64 x3, .int .i64 x4, .int .i64 x5, .int .i64 x6, .int .i64 x7, .int .i64 x8, .int .i64 x9, .int .i64 x10, .int .i64 x11, .int .i64 x12, .int .i64 x13, .int .i64 x14, .int .i64 x15, .int .i64 x16, .int .i64 x17, .int .i64 x18, .int .i64 x19, .int .i64 x20, .pointer (some ⟨LU.m, 0, none⟩), .pointer (some ⟨LK.m, 0, none⟩)] 82)) := Keep.alloc _ _
    have HF := Lib.hid (And.intro hbT (And.intro (hU5.keep0 kT) (And.intro (hK5.keep0 kT) (HK.out.trans (k5'.trans kT)))))
    refine wpAny_ready (rs := [6]) (by kernel_rfl) (by simp) (AllReady.cons rfl (fun K hK => ?_) AllReady.nil)
    rw [if_pos (by kernel_rfl)]
    refine wp_build_eq 82 #[(0, .tmp 15), (1, .tmp 16), (2, .tmp 18)] rfl #[.slice A n cap, .int .i64 x1, .int .i64 x2, .int .i64 x3, .int .i64 x4, .int .i64 x5, .int .i64 x6, .int .i64 x7, .int .i64 x8, .int .i64 x9, .int .i64 x10, .int .i64 x11, .int .i64 x12, .int .i64 x13, .int .i64 x14, .int .i64 x15, .int .i64 x16, .int .i64 x17, .int .i64 x18, .int .i64 x19, .int .i64 x20, .pointer (some ⟨LU.m, 0, none⟩), .pointer (some ⟨LK.m, 0, none⟩)] (by kernel_rfl) ?_
    refine hK _ _ ?_
    clear hK K
    refine wpAny_ready (rs := [7]) (by kernel_rfl) (by simp) (AllReady.cons rfl (fun K hK => ?_) AllReady.nil)
    rw [if_pos (by kernel_rfl)]
    refine wp_box_eq 82 (.tmp 19) rfl (.agg #[.slice A n cap, .int .i64 x1, .int .i64 x2, .int .i64 x3, .int .i64 x4, .int .i64 x5, .int .i64 x6, .int .i64 x7, .int .i64 x8, .int .i64 x9, .int .i64 x10, .int .i64 x11, .int .i64 x12, .int .i64 x13, .int .i64 x14, .int .i64 x15, .int .i64 x16, .int .i64 x17, .int .i64 x18, .int .i64 x19, .int .i64 x20, .pointer (some ⟨LU.m, 0, none⟩), .pointer (some ⟨LK.m, 0, none⟩)]) _ (by kernel_rfl) (tab_box w5 A (some ⟨LU.m, 0, none⟩) (some ⟨LK.m, 0, none⟩) n cap x1 x2 x3 x4 x5 x6 x7 x8 x9 x10 x11 x12 x13 x14 x15 x16 x17 x18 x19 x20) ?_
    refine hK _ _ ?_
    clear hK K
    refine wpAny_ready (rs := [8]) (by kernel_rfl) (by simp) (AllReady.cons rfl (fun K hK => ?_) AllReady.nil)
    rw [if_pos (by kernel_rfl)]
    go_simp
    refine hK _ _ ?_
    clear hK K
    refine wpAny_done (by kernel_rfl) ?_ _
    clear kT hbT hU5 hK5 k5 k5'
    go_wp2_with fail
    go_ret
    exact ⟨w5.heap.size, LU, LK, rfl, HF.out.1, HF.out.2.1, HF.out.2.2.1, HF.out.2.2.2, by omega, by omega, by omega, by omega, by omega, by omega, by omega, by omega⟩

theorem tnew_words {w : World} {g : Nat} {C : Cf} {m : Nat → Nat} {f : Nat → Nat → Int} (h : Lyt w g C m f) (P : Value) (U : Nat → Bool)
    (hw : Calls Try.prog 29 #[P] w fun e w1 => ∃ W, e = .returned W ∧ Keep [] w w1 ∧ Calls Try.prog 15 #[.int .i64 C.all, W] w1 (MapPost C.all U w1)) :
    Calls Try.prog 14 #[.pointer (some ⟨g, 0, none⟩), P] w (TabPost C U w) := by
  have hl := blocks_l h
  obtain ⟨A, cap, hb, _⟩ := h
  refine (tnew_core P U hb hl hw).mono ?_
  rintro e w' ⟨t, LU, LK, rfl, b1, b2, b3, k, o1, o2, o3, o4, o5, o6, o7, o8⟩
  exact ⟨⟨t, LU, LK⟩, rfl, ⟨⟨A, cap, b1⟩, b2, b3, fun _ h => h, by simp only; omega, by simp only; omega, by simp only; omega, by simp only; omega, by simp only; omega⟩, by simp [TLoc.own]; omega, k⟩

theorem tnew_map {w : World} {g : Nat} {C : Cf} {m : Nat → Nat} {f : Nat → Nat → Int} (h : Lyt w g C m f) (ok : C.Ok) (L : MLoc) (n : Nat) (B : Nat → Bool) (hB : Mp w L n B) :
    Calls Try.prog 14 #[.pointer (some ⟨g, 0, none⟩), .pointer (some ⟨L.m, 0, none⟩)] w (TabPost C (cutB C.all B) w) := by
  have hle := ok.all_le
  refine tnew_words h _ _ ((mwords_any hB).mono ?_)
  rintro e w1 ⟨g', cap', rfl, hr, _, hk⟩
  refine ⟨_, rfl, hk, ?_⟩
  have := of_any w1 C.all _ _ _ _ (Wrd.row hr (pack_lt B))
  rwa [clampN_nat (by omega), ofB_cut hB.tidy] at this

theorem tnew_nil {w : World} {g : Nat} {C : Cf} {m : Nat → Nat} {f : Nat → Nat → Int} (h : Lyt w g C m f) (ok : C.Ok) :
    Calls Try.prog 14 #[.pointer (some ⟨g, 0, none⟩), .pointer none] w (TabPost C (fun _ => false) w) := by
  have hle := ok.all_le
  refine tnew_words h _ _ ((mwords_nil w).mono ?_)
  rintro e w1 ⟨rfl, rfl⟩
  refine ⟨_, rfl, Keep.refl _ _, ?_⟩
  have := of_any w C.all none 0 0 (fun _ => 0) (Wrd.nil w)
  rwa [clampN_nat (by omega), ofB_none] at this

theorem tnew_none (w : World) (P : Value) : Calls Try.prog 14 #[.pointer none, P] w fun e w' => e = .returned (.pointer none) ∧ w = w' := by
  go_enter Try.func14, Try.ntmps14
  go_wp2
  go_ret
  exact ⟨rfl, rfl⟩
end Go.Proofs.Ytfihaaciaobolaa
