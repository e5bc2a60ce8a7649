/-
  BlockCancels walked. No conditions but what came in.
-/
import Derived.Test.YtfihaaciaobolaaTb6
import Derived.LoopN
import Derived.Deep.QuietTactic
namespace Go.Proofs.Ytfihaaciaobolaa
open Go.RowKit Go.Flo Go.Bit Go.Bmp
set_option maxRecDepth 100000

/-- A world in which an array was made. -/
structure FrW (w wx : World) (G : Nat) (c : Array Value) : Prop where
  hb : Blk wx G 22 c
  kp : Keep [] w wx
  hs : G = w.heap.size

theorem FrW.start (w : World) (c : Array Value) : FrW w (w.alloc (.cells c 22)) w.heap.size c := ⟨Blk.new w _ _, Keep.alloc _ _, rfl⟩

theorem FrW.dr {w wx wy : World} {G : Nat} {c : Array Value} (h : FrW w wx G c) (d : Dr wx wy) : FrW w wy G c := ⟨h.hb.dr d, h.kp.trans (Keep.dr d), h.hs⟩

theorem FrW.set_ {w wx : World} {G : Nat} {c : Array Value} (h : FrW w wx G c) (i : Nat) (u : Value) : FrW w (wx.setCell ⟨G, i, none⟩ u) G (c.setIfInBounds i u) :=
  ⟨h.hb.set_ i u, h.kp.since (Keep.setCell (own := [G]) _ _ (by simp) _) (by simp; have := h.hs; omega), h.hs⟩

theorem Tbl.own_lt {w : World} {L : TLoc} {C : Cf} {U T : Nat → Bool} (h : Tbl w L C U T) : ∀ k ∈ L.own, k < w.heap.size := by
  have h1 := h.used.row.lt
  have h2 := h.taken.row.lt
  intro k hk
  simp only [TLoc.own, List.mem_cons, List.not_mem_nil, or_false] at hk
  rcases hk with rfl | rfl
  · exact h1
  · exact h2

set_option maxHeartbeats 4000000 in
theorem walk_cancels (w : World) (a0 a1 a2 a3 x : Int) (A : Option Addr) (len cap : Nat) (f : Nat → Nat) (hW : Wrd w A len cap f) :
    Calls Try.prog 6 #[.agg #[.int .i64 a0, .int .i64 a1, .int .i64 a2, .int .i64 a3], .slice A len cap, .int .i64 x] w fun e w' => e = .returned (.bool true) ∧ Keep [] w w' := by
  have kb : Keep [] w (w.alloc (.cells #[.int .i64 a0, .int .i64 a1, .int .i64 a2, .int .i64 a3] 22)) := Keep.alloc _ _
  have hbx := Blk.new w 22 #[.int .i64 a0, .int .i64 a1, .int .i64 a2, .int .i64 a3]
  have hcf := config_any (w.alloc (.cells #[.int .i64 a0, .int .i64 a1, .int .i64 a2, .int .i64 a3] 22)) a0 a1 a2 a3
  have ok := cfC_ok a0 a1 a2 a3
  have hall := cfC_all a0 a1 a2 a3
  go_enter Try.func6, Try.ntmps6
  go_wp2_with fail
  (with_reducible refine hcf.mono ?_)
  rintro e w1 ⟨g, rfl, hK, k1⟩
  have hly := lay_any w1 a0 a1 a2 a3 _ hK
  generalize hC : cfC a0 a1 a2 a3 = C at *
  clear hcf hK hbx
  go_wp2_with fail
  (with_reducible refine hly.mono ?_)
  rintro e w2 ⟨l, rfl, hL, k2⟩
  have k02 := (kb.trans k1).trans k2
  have hof := of_any w2 1000 A len cap f (hW.keep k02)
  rw [show clampN 1000 = 1000 by decide] at hof
  clear hly kb k1 k2
  go_wp2_with fail
  (with_reducible refine hof.mono ?_)
  rintro e w3 ⟨LM, rfl, hM, _, _, k3⟩
  have htn := tnew_map (hL.keep k3) ok LM 1000 _ hM
  clear hof
  go_wp2_with fail
  (with_reducible refine htn.mono ?_)
  rintro e w4 ⟨L, rfl, hT, ho, k4⟩
  rw [show cutB C.all (ofB 1000 len f) = usB C len f from rfl] at hT
  generalize usB C len f = U at *
  have hs23 := k3.size
  have k24 := k3.trans k4
  have hsz : ∀ k ∈ L.own, w2.heap.size ≤ k := fun k hk => Nat.le_trans hs23 (ho k hk)
  have HO := Lib.hid hsz
  have HL := Lib.hid hL
  have K02 := Lib.hid k02
  clear htn hM ho k3 k4 hL k02 hsz hW hs23
  have hm := szW_mod x
  have hb := szW_le x
  obtain ⟨X, hX⟩ : ∃ X, IntKind.u64.wrap x = X := ⟨_, rfl⟩
  rw [hX] at hm
  generalize szW x = n at *
  obtain ⟨n', rfl⟩ : ∃ n', n = n' + 1 := ⟨n - 1, by omega⟩
  rw [show n' + 1 - 1 = n' from rfl] at hm
  have F5 := FrW.start w4 #[.int .i64 0, .int .i64 0, .int .i64 0, .int .i64 0]
  go_wp2_with fail
  generalize w4.alloc (.cells #[.int .i64 0, .int .i64 0, .int .i64 0, .int .i64 0] 22) = w5 at *
  clear hm hX
  refine wp_loop_rounds 5 ?_
  have hf : Calls Try.prog 23 #[.pointer (some ⟨L.t, 0, none⟩), .int .i64 0] w5 fun e w' => e = .returned (.int .i64 (fr C U 0 : Nat)) ∧ Dr w5 w' := free_yes (hT.keep0 F5.kp) 0 (by omega)
  rw [rounds_succ]; go_wp2_with fail
  (with_reducible refine hf.mono ?_)
  rintro e w6 ⟨rfl, d⟩
  have F6 := F5.dr d
  have hc : w6.cell? ⟨w4.heap.size, 0, none⟩ = some (.int .i64 0) := F6.hb.cell 0
  have hz := F6.hb.frozen 0
  clear hf d F5
  go_wp2
  obtain ⟨w7, hw⟩ : ∃ w', w' = w6.setCell ⟨w4.heap.size, 0, none⟩ (.int .i64 (fr C U 0 : Nat)) := ⟨_, rfl⟩
  rw [← hw]
  have F7 : FrW w4 w7 w4.heap.size #[.int .i64 (fr C U 0 : Nat), .int .i64 0, .int .i64 0, .int .i64 0] := by
    rw [hw]
    exact F6.set_ 0 (.int .i64 (fr C U 0 : Nat))
  clear hw F6 hc hz
  have hf : Calls Try.prog 23 #[.pointer (some ⟨L.t, 0, none⟩), .int .i64 1] w7 fun e w' => e = .returned (.int .i64 (fr C U 1 : Nat)) ∧ Dr w7 w' := free_yes (hT.keep0 F7.kp) 1 (by omega)
  rw [rounds_succ]; go_wp2_with fail
  (with_reducible refine hf.mono ?_)
  rintro e w8 ⟨rfl, d⟩
  have F8 := F7.dr d
  have hc : w8.cell? ⟨w4.heap.size, 1, none⟩ = some (.int .i64 0) := F8.hb.cell 1
  have hz := F8.hb.frozen 1
  clear hf d F7
  go_wp2
  obtain ⟨w9, hw⟩ : ∃ w', w' = w8.setCell ⟨w4.heap.size, 1, none⟩ (.int .i64 (fr C U 1 : Nat)) := ⟨_, rfl⟩
  rw [← hw]
  have F9 : FrW w4 w9 w4.heap.size #[.int .i64 (fr C U 0 : Nat), .int .i64 (fr C U 1 : Nat), .int .i64 0, .int .i64 0] := by
    rw [hw]
    exact F8.set_ 1 (.int .i64 (fr C U 1 : Nat))
  clear hw F8 hc hz
  have hf : Calls Try.prog 23 #[.pointer (some ⟨L.t, 0, none⟩), .int .i64 2] w9 fun e w' => e = .returned (.int .i64 (fr C U 2 : Nat)) ∧ Dr w9 w' := free_yes (hT.keep0 F9.kp) 2 (by omega)
  rw [rounds_succ]; go_wp2_with fail
  (with_reducible refine hf.mono ?_)
  rintro e w10 ⟨rfl, d⟩
  have F10 := F9.dr d
  have hc : w10.cell? ⟨w4.heap.size, 2, none⟩ = some (.int .i64 0) := F10.hb.cell 2
  have hz := F10.hb.frozen 2
  clear hf d F9
  go_wp2
  obtain ⟨w11, hw⟩ : ∃ w', w' = w10.setCell ⟨w4.heap.size, 2, none⟩ (.int .i64 (fr C U 2 : Nat)) := ⟨_, rfl⟩
  rw [← hw]
  have F11 : FrW w4 w11 w4.heap.size #[.int .i64 (fr C U 0 : Nat), .int .i64 (fr C U 1 : Nat), .int .i64 (fr C U 2 : Nat), .int .i64 0] := by
    rw [hw]
    exact F10.set_ 2 (.int .i64 (fr C U 2 : Nat))
  clear hw F10 hc hz
  have hf : Calls Try.prog 23 #[.pointer (some ⟨L.t, 0, none⟩), .int .i64 3] w11 fun e w' => e = .returned (.int .i64 (fr C U 3 : Nat)) ∧ Dr w11 w' := free_yes (hT.keep0 F11.kp) 3 (by omega)
  rw [rounds_succ]; go_wp2_with fail
  (with_reducible refine hf.mono ?_)
  rintro e w12 ⟨rfl, d⟩
  have F12 := F11.dr d
  have hc : w12.cell? ⟨w4.heap.size, 3, none⟩ = some (.int .i64 0) := F12.hb.cell 3
  have hz := F12.hb.frozen 3
  clear hf d F11
  go_wp2
  obtain ⟨w13, hw⟩ : ∃ w', w' = w12.setCell ⟨w4.heap.size, 3, none⟩ (.int .i64 (fr C U 3 : Nat)) := ⟨_, rfl⟩
  rw [← hw]
  have F13 : FrW w4 w13 w4.heap.size #[.int .i64 (fr C U 0 : Nat), .int .i64 (fr C U 1 : Nat), .int .i64 (fr C U 2 : Nat), .int .i64 (fr C U 3 : Nat)] := by
    rw [hw]
    exact F12.set_ 3 (.int .i64 (fr C U 3 : Nat))
  clear hw F12 hc hz
  have hr := reserve_any (hT.keep0 F13.kp) ((n' : Int) + 1) (by omega) (by omega)
  have ha := awake7_any w13
  have K13 := k24.trans F13.kp
  have HF := Lib.hid F13
  rw [rounds_succ]
  rcases fst_spec U C.all false (C.all - fo C (lc ((n' : Int) + 1))) (fo C (lc ((n' : Int) + 1))) rfl with ⟨e1, e2⟩ | ⟨i, e1, e2, e3, e4, e5⟩
  · rw [e1] at hr
    clear F13
    go_wp2_with fail
    (with_reducible refine hr.mono ?_)
    rintro e w14 (⟨i, hi, _⟩ | ⟨_, rfl, d14⟩)
    case inl => omega
    have ha := awake7_any w14
    go_wp2_with fail
    (with_reducible refine ha.mono ?_)
    rintro e w15 ⟨rfl, k15⟩
    go_wp2
    go_ret
    exact ⟨rfl, K02.out.trans ((K13.trans (Keep.dr d14)).trans k15)⟩
  · have e1' := e1
    rw [e1] at hr
    have hcl := cls_fo C i e3
    have hc4 := C.cls_lt i
    have hy := fr_take C U i (C.cls i) e4 hcl.1 hcl.2
    have hyl := cnt_le (nt (upd U i true)) (fo C (C.cls i + 1))
    have hfl := fo_le C (C.cls i + 1)
    have hcell := four_cell (F13.hb) (C.cls i) hc4
    rw [four_fr C U _ hc4, ← hy] at hcell
    have hyb : fr C (upd U i true) (C.cls i) ≤ 360 := by unfold fr; omega
    have hlt := hT.own_lt
    have HE := Lib.hid (And.intro e1 (And.intro e3 e4))
    clear e1 e2 e5 e1' hyl hfl F13 ha
    go_wp2_with fail
    (with_reducible refine hr.mono ?_)
    rintro e w14 (⟨j, hj, hjl, hjT, rfl, hT14, k14⟩ | ⟨hno, _⟩)
    case inr => omega
    obtain rfl : i = j := by omega
    clear hj hr
    have hG14 := hcell
    rw [← k14.cell (p := ⟨w4.heap.size, C.cls i, none⟩) HF.out.hb.lt (fun hm => by have := hlt _ hm; simp at this)] at hG14
    have K14 : Keep [] w2 w14 := K13.since k14 HO.out
    have hcs := class_yes (HL.out.keep K14) i e3
    have hfr := free_yes hT14 (C.cls i) (by omega)
    generalize hyy : fr C (upd U i true) (C.cls i) = y at *
    generalize hkk : C.cls i = kk at *
    have hk0 : (0 : Int) ≤ kk := by omega
    have hk4 : (kk : Int) < 4 := by omega
    push_cast at hG14
    clear hcell
    go_wp2_with fail
    (with_reducible refine hcs.mono ?_)
    rintro e w14' ⟨rfl, rfl⟩
    go_wp2_with fail
    (with_reducible refine hfr.mono ?_)
    rintro e w15 ⟨rfl, d15⟩
    have hcs := class_yes (HL.out.keep (K14.trans (Keep.dr d15))) i e3
    rw [hkk] at hcs
    have hG15 : w15.cell? ⟨w4.heap.size, kk, none⟩ = some (.int .i64 ((y : Int) + 1)) := by
      obtain ⟨q, rfl⟩ := d15
      exact hG14
    have hT15 := hT14.dr d15
    have hrv := reserved_any hT15 i
    rw [show rb U (upd U i true) (i : Int) = true by unfold rb; rw [gb_nat, gb_nat, upd_same, e4]; rfl] at hrv
    go_wp2_with fail
    (with_reducible refine hcs.mono ?_)
    rintro e w15' ⟨rfl, rfl⟩
    clear hG14 hcs hfr
    go_wp2_with fail
    (with_reducible refine hrv.mono ?_)
    rintro e w16 ⟨rfl, d16⟩
    have hca := cancel_yes (hT15.dr d16) i e3 (upd_same _ _ _) e4
    rw [upd_back e4] at hca
    clear hrv hG15
    go_wp2_with fail
    (with_reducible refine hca.mono ?_)
    rintro e w17 ⟨rfl, hT17, k17⟩
    have hcn := cancel_no hT17 i (by unfold rb; rw [gb_nat, e4]; rfl)
    clear hca
    go_wp2_with fail
    (with_reducible refine hcn.mono ?_)
    rintro e w18 ⟨rfl, d18⟩
    have hT18 := hT17.dr d18
    have hrv := reserved_any hT18 i
    rw [show rb U U (i : Int) = false by unfold rb; rw [gb_nat, e4]; rfl] at hrv
    clear hcn
    go_wp2_with fail
    (with_reducible refine hrv.mono ?_)
    rintro e w19 ⟨rfl, d19⟩
    have hT19 := hT18.dr d19
    have k19 : Keep L.own w13 w19 := k14.trans ((((Keep.dr (d15.trans d16)).trans k17).trans (Keep.dr d18)).trans (Keep.dr d19))
    have K19 : Keep [] w2 w19 := K13.since k19 HO.out
    have hG19 := HF.out.hb.keep k19 (fun hm => by have := hlt _ hm; simp at this)
    have hrr := fun W (d : Dr w19 W) => reserve_any (hT19.dr d) ((n' : Int) + 1) (by omega) (by omega)
    rw [HE.out.1] at hrr
    have HR := Lib.hid hrr
    clear hrv hT18 hT17 hT14 hrr hT15
    go_wp2_with fail
    refine wp_loop_rounds 5 ?_
    have D19 : Dr w19 w19 := Dr.refl _
    have c : w19.cell? ⟨w4.heap.size, 0, none⟩ = some (.int .i64 (fr C U 0 : Nat)) := (hG19.dr D19).cell 0
    have q : ∀ n, Calls Try.prog 23 #[.pointer (some ⟨L.t, 0, none⟩), .int .i64 0] (w19.drewN n) fun e w'' => e = .returned (.int .i64 (fr C U 0 : Nat)) ∧ ∃ m, w'' = w19.drewN m := fun n => quiet (free_yes ((hT19.dr D19).dr (Dr.drewN _ n)) 0 (by omega))
    rw [rounds_succ]; go_wp2_with fail
    go_quiet ((go_at_call 23; exact q _))
    go_wp2
    obtain ⟨w20, hw⟩ : ∃ w', w' = w19.drewN nq := ⟨_, rfl⟩
    rw [← hw]
    have D20 : Dr w19 w20 := D19.trans (hw ▸ Dr.drewN _ _)
    clear hw c q D19
    have c : w20.cell? ⟨w4.heap.size, 1, none⟩ = some (.int .i64 (fr C U 1 : Nat)) := (hG19.dr D20).cell 1
    have q : ∀ n, Calls Try.prog 23 #[.pointer (some ⟨L.t, 0, none⟩), .int .i64 1] (w20.drewN n) fun e w'' => e = .returned (.int .i64 (fr C U 1 : Nat)) ∧ ∃ m, w'' = w20.drewN m := fun n => quiet (free_yes ((hT19.dr D20).dr (Dr.drewN _ n)) 1 (by omega))
    rw [rounds_succ]; go_wp2_with fail
    go_quiet ((go_at_call 23; exact q _))
    go_wp2
    obtain ⟨w21, hw⟩ : ∃ w', w' = w20.drewN nq := ⟨_, rfl⟩
    rw [← hw]
    have D21 : Dr w19 w21 := D20.trans (hw ▸ Dr.drewN _ _)
    clear hw c q D20
    have c : w21.cell? ⟨w4.heap.size, 2, none⟩ = some (.int .i64 (fr C U 2 : Nat)) := (hG19.dr D21).cell 2
    have q : ∀ n, Calls Try.prog 23 #[.pointer (some ⟨L.t, 0, none⟩), .int .i64 2] (w21.drewN n) fun e w'' => e = .returned (.int .i64 (fr C U 2 : Nat)) ∧ ∃ m, w'' = w21.drewN m := fun n => quiet (free_yes ((hT19.dr D21).dr (Dr.drewN _ n)) 2 (by omega))
    rw [rounds_succ]; go_wp2_with fail
    go_quiet ((go_at_call 23; exact q _))
    go_wp2
    obtain ⟨w22, hw⟩ : ∃ w', w' = w21.drewN nq := ⟨_, rfl⟩
    rw [← hw]
    have D22 : Dr w19 w22 := D21.trans (hw ▸ Dr.drewN _ _)
    clear hw c q D21
    have c : w22.cell? ⟨w4.heap.size, 3, none⟩ = some (.int .i64 (fr C U 3 : Nat)) := (hG19.dr D22).cell 3
    have q : ∀ n, Calls Try.prog 23 #[.pointer (some ⟨L.t, 0, none⟩), .int .i64 3] (w22.drewN n) fun e w'' => e = .returned (.int .i64 (fr C U 3 : Nat)) ∧ ∃ m, w'' = w22.drewN m := fun n => quiet (free_yes ((hT19.dr D22).dr (Dr.drewN _ n)) 3 (by omega))
    rw [rounds_succ]; go_wp2_with fail
    go_quiet ((go_at_call 23; exact q _))
    go_wp2
    obtain ⟨w23, hw⟩ : ∃ w', w' = w22.drewN nq := ⟨_, rfl⟩
    rw [← hw]
    have D23 : Dr w19 w23 := D22.trans (hw ▸ Dr.drewN _ _)
    clear hw c q D22
    have hrr := HR.out w23 D23
    clear hG19
    rw [rounds_succ]; go_wp2_with fail
    (with_reducible refine hrr.mono ?_)
    rintro e w24 (⟨j, hj, _, _, rfl, hT24, k24'⟩ | ⟨hno, _⟩)
    case inr => omega
    obtain rfl : i = j := by omega
    have ha := awake7_any w24
    clear hj hrr
    go_wp2_with fail
    (with_reducible refine ha.mono ?_)
    rintro e w25 ⟨rfl, k25⟩
    go_wp2
    go_ret
    exact ⟨rfl, K02.out.trans ((K13.since ((k19.trans (Keep.dr D23)).trans k24') HO.out).trans k25)⟩
end Go.Proofs.Ytfihaaciaobolaa
