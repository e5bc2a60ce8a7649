/-
  Package block: what a table is in memory; the layout inside it; Used, Reserved, Cancel, Bits, Free. No conditions but what a table is.
-/
import Derived.Test.YtfihaaciaobolaaTb0
import Derived.Test.YtfihaaciaobolaaMap5
import Derived.Test.YtfihaaciaobolaaLay5
namespace Go.Proofs.Ytfihaaciaobolaa
open Go.RowKit Go.Flo Go.Bit Go.Bmp
set_option maxRecDepth 100000

/-- Where a table lies. -/
structure TLoc where
  t : Nat
  u : MLoc
  k : MLoc

def TLoc.own (L : TLoc) : List Nat := [L.u.r, L.k.r]

/-- A table: U is used, T used or reserved. -/
structure Tbl (w : World) (L : TLoc) (C : Cf) (U T : Nat → Bool) : Prop where
  blk : ∃ A cap, Blk w L.t 82 #[.slice A C.n cap, .int .i64 C.b0, .int .i64 C.b1, .int .i64 C.b2, .int .i64 C.b3, .int .i64 C.r, .int .i64 C.wk, .int .i64 C.lg, .int .i64 C.roots, .int .i64 C.bits, .int .i64 C.log, .int .i64 C.words, .int .i64 0, .int .i64 C.f1, .int .i64 C.f2, .int .i64 C.f3, .int .i64 C.all, .int .i64 C.s0, .int .i64 C.s1, .int .i64 C.s2, .int .i64 C.s3, .pointer (some ⟨L.u.m, 0, none⟩), .pointer (some ⟨L.k.m, 0, none⟩)]
  used : Mp w L.u C.all U
  taken : Mp w L.k C.all T
  sub : ∀ i, U i = true → T i = true
  tur : L.t ≠ L.u.r
  tkr : L.t ≠ L.k.r
  mm : L.u.m ≠ L.k.r
  rm : L.k.m ≠ L.u.r
  rr : L.u.r ≠ L.k.r

/-- A layout's cells. -/
structure LC (w : World) (g : Nat) (C : Cf) : Prop where
  c9 : w.cell? ⟨g, 9, none⟩ = some (.int .i64 C.bits)
  c12 : w.cell? ⟨g, 12, none⟩ = some (.int .i64 0)
  c13 : w.cell? ⟨g, 13, none⟩ = some (.int .i64 C.f1)
  c14 : w.cell? ⟨g, 14, none⟩ = some (.int .i64 C.f2)
  c15 : w.cell? ⟨g, 15, none⟩ = some (.int .i64 C.f3)
  c16 : w.cell? ⟨g, 16, none⟩ = some (.int .i64 C.all)

section
variable {w w' : World} {L : TLoc} {C : Cf} {U T : Nat → Bool}
theorem Tbl.lc (h : Tbl w L C U T) : LC w L.t C := by
  obtain ⟨A, cap, hb⟩ := h.blk
  exact ⟨(hb.cell 9).trans rfl, (hb.cell 12).trans rfl, (hb.cell 13).trans rfl, (hb.cell 14).trans rfl, (hb.cell 15).trans rfl, (hb.cell 16).trans rfl⟩

theorem Tbl.cu (h : Tbl w L C U T) : w.cell? ⟨L.t, 21, none⟩ = some (.pointer (some ⟨L.u.m, 0, none⟩)) := by
  obtain ⟨A, cap, hb⟩ := h.blk
  exact (hb.cell 21).trans rfl

theorem Tbl.ck (h : Tbl w L C U T) : w.cell? ⟨L.t, 22, none⟩ = some (.pointer (some ⟨L.k.m, 0, none⟩)) := by
  obtain ⟨A, cap, hb⟩ := h.blk
  exact (hb.cell 22).trans rfl

theorem Tbl.keep0 (h : Tbl w L C U T) (hk : Keep [] w w') : Tbl w' L C U T := by
  obtain ⟨A, cap, hb⟩ := h.blk
  exact ⟨⟨A, cap, hb.keep hk (by simp)⟩, h.used.keep0 hk, h.taken.keep0 hk, h.sub, h.tur, h.tkr, h.mm, h.rm, h.rr⟩

theorem Tbl.dr (h : Tbl w L C U T) (hk : Dr w w') : Tbl w' L C U T := h.keep0 (Keep.dr hk)

/-- The map of the taken alone has turned. -/
theorem Tbl.setK {T' : Nat → Bool} (h : Tbl w L C U T) (hm : Mp w' L.k C.all T') (hk : Keep [L.k.r] w w') (hs : ∀ i, U i = true → T' i = true) : Tbl w' L C U T' := by
  obtain ⟨A, cap, hb⟩ := h.blk
  exact ⟨⟨A, cap, hb.keep hk (by simp [h.tkr])⟩, h.used.keep hk (by simp [h.mm]) (by simp [h.rr]), hm, hs, h.tur, h.tkr, h.mm, h.rm, h.rr⟩

theorem Keep.k (hk : Keep [L.k.r] w w') : Keep L.own w w' := hk.one (by simp [TLoc.own])

theorem Keep.u (hk : Keep [L.u.r] w w') : Keep L.own w w' := hk.one (by simp [TLoc.own])
end

theorem blocks_c {w : World} {g : Nat} {C : Cf} (h : LC w g C) : Calls Try.prog 35 #[.pointer (some ⟨g, 0, none⟩)] w fun e w' => e = .returned (.int .i64 C.all) ∧ w = w' := by
  have q16 := h.c16
  go_enter Try.func35, Try.ntmps35
  go_wp2
  go_ret
  exact ⟨rfl, rfl⟩

theorem bits_c {w : World} {g : Nat} {C : Cf} (h : LC w g C) (ok : C.Ok) (b : Nat) (hlt : b < C.all) : Calls Try.prog 36 #[.pointer (some ⟨g, 0, none⟩), .int .i64 b] w fun e w' => e = .returned (.int .i64 (C.bits + b / 64 : Nat)) ∧ w = w' := by
  have hh : Calls Try.prog 51 #[.pointer (some ⟨g, 0, none⟩), .int .i64 b] w fun e w' => e = .returned (.bool true) ∧ w = w' := by
    have hl := blocks_c h
    have h1 : (0 : Int) ≤ b := by omega
    have h2 : (b : Int) < C.all := by omega
    go_enter Try.func51, Try.ntmps51
    go_wp2_with fail
    (with_reducible refine hl.mono ?_)
    rintro e w' ⟨rfl, rfl⟩
    go_wp2
    go_ret
    exact ⟨rfl, rfl⟩
  have b1 := ok.bits_le
  have b2 := ok.all_le
  have q9 := h.c9
  go_enter Try.func36, Try.ntmps36
  go_wp2_with fail
  (with_reducible refine hh.mono ?_)
  rintro e w' ⟨rfl, rfl⟩
  go_wp2
  go_ret
  exact ⟨ret_i64 (by omega), rfl⟩


theorem range_c0 {w : World} {g : Nat} {C : Cf} (h : LC w g C) : Calls Try.prog 44 #[.pointer (some ⟨g, 0, none⟩), .int .i64 0] w fun e w' => e = .returned (.tuple #[.int .i64 (fo C 0 : Nat), .int .i64 (fo C 1 : Nat)]) ∧ Dr w w' := by
  have q1 := h.c12
  have q2 := h.c13
  go_enter Try.func44, Try.ntmps44
  go_wp2
  go_quiet (fail)
  go_wp2
  go_ret2
  exact ⟨rfl, Dr.drewN _ _⟩


theorem range_c1 {w : World} {g : Nat} {C : Cf} (h : LC w g C) : Calls Try.prog 44 #[.pointer (some ⟨g, 0, none⟩), .int .i64 1] w fun e w' => e = .returned (.tuple #[.int .i64 (fo C 1 : Nat), .int .i64 (fo C 2 : Nat)]) ∧ Dr w w' := by
  have q1 := h.c13
  have q2 := h.c14
  go_enter Try.func44, Try.ntmps44
  go_wp2
  go_quiet (fail)
  go_wp2
  go_ret2
  exact ⟨rfl, Dr.drewN _ _⟩


theorem range_c2 {w : World} {g : Nat} {C : Cf} (h : LC w g C) : Calls Try.prog 44 #[.pointer (some ⟨g, 0, none⟩), .int .i64 2] w fun e w' => e = .returned (.tuple #[.int .i64 (fo C 2 : Nat), .int .i64 (fo C 3 : Nat)]) ∧ Dr w w' := by
  have q1 := h.c14
  have q2 := h.c15
  go_enter Try.func44, Try.ntmps44
  go_wp2
  go_quiet (fail)
  go_wp2
  go_ret2
  exact ⟨rfl, Dr.drewN _ _⟩


theorem range_c3 {w : World} {g : Nat} {C : Cf} (h : LC w g C) : Calls Try.prog 44 #[.pointer (some ⟨g, 0, none⟩), .int .i64 3] w fun e w' => e = .returned (.tuple #[.int .i64 (fo C 3 : Nat), .int .i64 (fo C 4 : Nat)]) ∧ Dr w w' := by
  have q1 := h.c15
  have q2 := h.c16
  go_enter Try.func44, Try.ntmps44
  go_wp2
  go_quiet (fail)
  go_wp2
  go_ret2
  exact ⟨rfl, Dr.drewN _ _⟩


theorem range_c {w : World} {g : Nat} {C : Cf} (h : LC w g C) (k : Nat) (hk : k ≤ 3) : Calls Try.prog 44 #[.pointer (some ⟨g, 0, none⟩), .int .i64 k] w fun e w' => e = .returned (.tuple #[.int .i64 (fo C k : Nat), .int .i64 (fo C (k + 1) : Nat)]) ∧ Dr w w' := by
  match k, hk with
  | 0, _ => exact range_c0 h
  | 1, _ => exact range_c1 h
  | 2, _ => exact range_c2 h
  | 3, _ => exact range_c3 h

theorem range_cno (w : World) (g : Nat) (b : Int) (hb : b < 0 ∨ 4 ≤ b) : Calls Try.prog 44 #[.pointer (some ⟨g, 0, none⟩), .int .i64 b] w fun e w' => e = .returned (.tuple #[.int .i64 0, .int .i64 0]) ∧ w = w' := by
  by_cases h1 : b < 0
  · go_enter Try.func44, Try.ntmps44
    go_wp2
    go_ret2
    exact ⟨rfl, rfl⟩
  · have h2 : 4 ≤ b := by omega
    go_enter Try.func44, Try.ntmps44
    go_wp2
    go_ret2
    exact ⟨rfl, rfl⟩

theorem used_any {w : World} {L : TLoc} {C : Cf} {U T : Nat → Bool} (h : Tbl w L C U T) (b : Int) : Calls Try.prog 25 #[.pointer (some ⟨L.t, 0, none⟩), .int .i64 b] w fun e w' => e = .returned (.bool (gb U b)) ∧ Dr w w' := by
  have hu := h.cu
  have hg := mget_any h.used b
  go_enter Try.func25, Try.ntmps25
  go_wp2_with fail
  (with_reducible refine hg.mono ?_)
  rintro e w' ⟨rfl, d⟩
  go_wp2
  go_ret
  exact ⟨rfl, d⟩

/-- Reserved, by any number. -/
def rb (U T : Nat → Bool) (i : Int) : Bool := gb T i && !gb U i

theorem reserved_any {w : World} {L : TLoc} {C : Cf} {U T : Nat → Bool} (h : Tbl w L C U T) (b : Int) : Calls Try.prog 26 #[.pointer (some ⟨L.t, 0, none⟩), .int .i64 b] w fun e w' => e = .returned (.bool (rb U T b)) ∧ Dr w w' := by
  have hk := h.ck
  have hg := mget_any h.taken b
  cases ht : gb T b
  · rw [ht] at hg
    rw [show rb U T b = false by unfold rb; rw [ht]; rfl]
    go_enter Try.func26, Try.ntmps26
    go_wp2_with fail
    (with_reducible refine hg.mono ?_)
    rintro e w' ⟨rfl, d⟩
    go_wp2
    go_ret
    exact ⟨rfl, d⟩
  · rw [ht] at hg
    rw [show rb U T b = !gb U b by unfold rb; rw [ht]; rfl]
    go_enter Try.func26, Try.ntmps26
    go_wp2_with fail
    (with_reducible refine hg.mono ?_)
    rintro e w' ⟨rfl, d⟩
    have h2 := h.dr d
    have hu := h2.cu
    have hg2 := mget_any h2.used b
    go_wp2_with fail
    (with_reducible refine hg2.mono ?_)
    rintro e w'' ⟨rfl, d2⟩
    go_wp2
    go_ret
    exact ⟨rfl, d.trans d2⟩

/-- A table whose taken are T' behind the call. -/
def TPost (L : TLoc) (C : Cf) (U T' : Nat → Bool) (v : Value) (w : World) (e : Ending) (w' : World) : Prop := e = .returned v ∧ Tbl w' L C U T' ∧ Keep L.own w w'

theorem rb_nat {w : World} {L : TLoc} {C : Cf} {U T : Nat → Bool} (h : Tbl w L C U T) {b : Int} (hr : rb U T b = true) : ∃ k : Nat, b = k ∧ k < C.all ∧ T k = true ∧ U k = false := by
  unfold rb gb at hr
  simp only [Bool.and_eq_true, Bool.not_eq_true', decide_eq_true_eq] at hr
  obtain ⟨⟨h0, h1⟩, h2⟩ := hr
  obtain ⟨k, rfl⟩ := Int.eq_ofNat_of_zero_le h0
  simp only [Int.toNat_natCast] at h1 h2
  simp at h2
  refine ⟨k, rfl, ?_, h1, h2⟩
  rcases Nat.lt_or_ge k C.all with hl | hl
  · exact hl
  · rw [h.taken.tidy k hl] at h1
    cases h1

theorem cancel_yes {w : World} {L : TLoc} {C : Cf} {U T : Nat → Bool} (h : Tbl w L C U T) (k : Nat) (hk : k < C.all) (h1 : T k = true) (h2 : U k = false) : Calls Try.prog 18 #[.pointer (some ⟨L.t, 0, none⟩), .int .i64 k] w (TPost L C U (upd T k false) (.bool true) w) := by
  have hr := reserved_any h k
  rw [show rb U T k = true by unfold rb; rw [gb_nat, gb_nat, h1, h2]; rfl] at hr
  go_enter Try.func18, Try.ntmps18
  go_wp2_with fail
  (with_reducible refine hr.mono ?_)
  rintro e w1 ⟨rfl, d⟩
  have ht := h.dr d
  have hs := mset_any ht.taken k false
  rw [updZ_nat _ hk, wasZ_nat _ hk, h1] at hs
  have hc := ht.ck
  go_wp2_with fail
  (with_reducible refine hs.mono ?_)
  rintro e w2 ⟨rfl, m2, k2⟩
  have HF := Lib.hid (And.intro (ht.setK m2 k2 (fun i hi => by
    by_cases e : i = k
    · subst e; rw [h2] at hi; cases hi
    · rw [upd_far _ _ e]; exact h.sub i hi)) ((Keep.dr d).trans (Keep.k k2)))
  clear hs hr
  go_wp2
  go_ret
  exact ⟨rfl, HF.out.1, HF.out.2⟩

theorem cancel_no {w : World} {L : TLoc} {C : Cf} {U T : Nat → Bool} (h : Tbl w L C U T) (b : Int) (hb : rb U T b = false) : Calls Try.prog 18 #[.pointer (some ⟨L.t, 0, none⟩), .int .i64 b] w fun e w' => e = .returned (.bool false) ∧ Dr w w' := by
  have hr := reserved_any h b
  rw [hb] at hr
  go_enter Try.func18, Try.ntmps18
  go_wp2_with fail
  (with_reducible refine hr.mono ?_)
  rintro e w1 ⟨rfl, d⟩
  go_wp2
  go_ret
  exact ⟨rfl, d⟩

theorem bits_t {w : World} {L : TLoc} {C : Cf} {U T : Nat → Bool} (h : Tbl w L C U T) : Calls Try.prog 28 #[.pointer (some ⟨L.t, 0, none⟩)] w (MapPost C.all U w) := by
  have hu := h.cu
  have hc := mcopy_any h.used
  go_enter Try.func28, Try.ntmps28
  go_wp2_with fail
  (with_reducible refine hc.mono ?_)
  rintro e w1 ⟨L', rfl, hr⟩
  have HR := Lib.hid hr
  clear hr
  go_wp2
  go_ret
  exact ⟨L', rfl, HR.out⟩

def FreeRel (w : World) (C : Cf) (T : Nat → Bool) (a t : Nat) (x y : Value) (wr : World) : Prop :=
  ∃ p : Nat, a ≤ p ∧ p ≤ t ∧ x = .int .i64 (cnt (nt T) p - cnt (nt T) a : Nat) ∧ y = .int .i64 (fst T p t false) ∧ Dr w wr

/-- What is left to look at. -/
def frM (t : Nat) (y : Value) : Nat := if intOf y < 0 then 0 else t - (intOf y).toNat

theorem frM_none (t : Nat) : frM t (.int .i64 (-1)) = 0 := rfl

theorem frM_at (t i : Nat) : frM t (.int .i64 (i : Nat)) = t - i := by show (if (i : Int) < 0 then 0 else t - (i : Int).toNat) = _; rw [if_neg (by omega)]; rfl

theorem free_yes {w : World} {L : TLoc} {C : Cf} {U T : Nat → Bool} (h : Tbl w L C U T) (k : Nat) (hk : k ≤ 3) : Calls Try.prog 23 #[.pointer (some ⟨L.t, 0, none⟩), .int .i64 k] w fun e w' => e = .returned (.int .i64 (fr C T k : Nat)) ∧ Dr w w' := by
  have hr := range_c h.lc k hk
  have hab := fo_next C k
  have htl := fo_le C (k + 1)
  have hall := h.taken.le
  unfold fr
  generalize fo C k = a at *
  generalize fo C (k + 1) = t at *
  have hcl := cnt_le (nt T) t
  go_enter Try.func23, Try.ntmps23
  go_wp2_with fail
  (with_reducible refine hr.mono ?_)
  rintro e w1 ⟨rfl, d1⟩
  have h1 := h.dr d1
  have hc := h1.ck
  have hf := mfirst_any h1.taken a t false (by omega)
  rw [show (min (t : Int) (C.all : Int)).toNat = t by omega, show (a : Int).toNat = a by omega] at hf
  clear hr
  go_wp2_with fail
  (with_reducible refine hf.mono ?_)
  rintro e w2 ⟨rfl, rfl⟩
  clear hf
  go_wp2
  go_loopw [7, 8] (fun x y wr => FreeRel w C T a t x y wr) (fun _ y _ => frM t y)
  case atStart => exact ⟨a, by omega, hab, by simp, rfl, d1⟩
  case round =>
    obtain ⟨p, hp1, hp2, rfl, rfl, hd⟩ := hrel
    have h3 := h.dr hd
    have hc3 := h3.ck
    have hcp := cnt_le2 (nt T) hp1
    have hcq := cnt_le2 (nt T) hp2
    rcases fst_spec T t false (t - p) p rfl with ⟨e1, e2⟩ | ⟨i, e1, e2, e3, e4, e5⟩
    · have hn := cnt_none hp2 e2
      have HN := Lib.hid hn
      obtain ⟨z, hz⟩ : ∃ z, fst T p t false = z := ⟨_, rfl⟩
      have hz0 : z < 0 := by omega
      rw [hz]
      clear hn e1 e2 hz
      go_wp2
      go_ret
      exact ⟨by rw [HN.out]; rfl, hd⟩
    · have hn := cnt_one e2 e5 e4
      have hi0 : (0 : Int) ≤ i := by omega
      have hf := mfirst_any h3.taken ((i : Int) + 1) t false (by omega)
      rw [show (min (t : Int) (C.all : Int)).toNat = t by omega, show ((i : Int) + 1).toNat = i + 1 by omega] at hf
      have hgo := fst_spec T t false (t - (i + 1)) (i + 1) rfl
      have HN := Lib.hid hn
      have HG := Lib.hid hgo
      rw [e1]
      clear hn e1 e5 hgo
      go_wp2_with fail
      (with_reducible refine hf.mono ?_)
      rintro e w3 ⟨rfl, rfl⟩
      go_wp2
      go_roundw
      case rel => exact ⟨i + 1, by omega, by omega, by rw [HN.out]; go_num, rfl, hd⟩
      case measure =>
        rcases HG.out with ⟨e6, _⟩ | ⟨j, e6, e7, e8, _⟩
        · rw [e6]; show frM t _ < frM t _; rw [frM_none, frM_at]; omega
        · rw [e6]; show frM t _ < frM t _; rw [frM_at, frM_at]; omega

theorem free_no {w : World} {L : TLoc} {C : Cf} {U T : Nat → Bool} (h : Tbl w L C U T) (b : Int) (hb : b < 0 ∨ 4 ≤ b) : Calls Try.prog 23 #[.pointer (some ⟨L.t, 0, none⟩), .int .i64 b] w fun e w' => e = .returned (.int .i64 0) ∧ Dr w w' := by
  have hr := range_cno w L.t b hb
  have hc := h.ck
  have hf : Calls Try.prog 45 #[.pointer (some ⟨L.k.m, 0, none⟩), .int .i64 0, .int .i64 0, .bool false] w fun e w' => e = .returned (.int .i64 (-1)) ∧ w = w' := by
    have := mfirst_any h.taken 0 0 false (by omega)
    rwa [show (min (0 : Int) (C.all : Int)).toNat = 0 by omega, fst_end (by omega)] at this
  go_enter Try.func23, Try.ntmps23
  go_wp2_with fail
  (with_reducible refine hr.mono ?_)
  rintro e w1 ⟨rfl, rfl⟩
  go_wp2_with fail
  (with_reducible refine hf.mono ?_)
  rintro e w2 ⟨rfl, rfl⟩
  go_wp2
  refine wp_loop_rounds 1 ?_
  rw [rounds_succ]; go_wp2
  go_ret
  exact ⟨rfl, Dr.refl _⟩

end Go.Proofs.Ytfihaaciaobolaa
