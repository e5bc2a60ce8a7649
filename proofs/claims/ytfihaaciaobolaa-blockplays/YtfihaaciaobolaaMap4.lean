/-
  Package bitmap: Of, New, Words, Copy: maps and rows that are made. No conditions but what a map is, and what words are.
-/
import Derived.Test.YtfihaaciaobolaaMap3
import Derived.Deep.DeepCutAuto
import Derived.OwnWalk
namespace Go.Proofs.Ytfihaaciaobolaa
open Go.RowKit Go.Flo Go.Bit Go.Bmp
set_option maxRecDepth 100000

/-- Words that came in, as numbers. -/
structure Wrd (w : World) (A : Option Addr) (n cap : Nat) (f : Nat → Nat) : Prop where
  nc : n ≤ cap
  cap : cap ≤ 9223372036854775807
  lt : ∀ j, f j < 18446744073709551616
  cells : 0 < n → ∃ b o, A = some ⟨b, o, none⟩ ∧ b < w.heap.size ∧ ∀ j, j < n → w.cell? ⟨b, o + j, none⟩ = some (.int .u64 (f j : Nat))
theorem Wrd.keep {w w' : World} {A : Option Addr} {n cap : Nat} {f : Nat → Nat} (h : Wrd w A n cap f) (hk : Keep [] w w') : Wrd w' A n cap f :=
  ⟨h.nc, h.cap, h.lt, fun h0 => by
    obtain ⟨b, o, h1, h3, h4⟩ := h.cells h0
    exact ⟨b, o, h1, Nat.lt_of_lt_of_le h3 hk.size, fun j hj => (hk.cell (p := ⟨b, _, none⟩) h3 (by simp)).trans (h4 j hj)⟩⟩
theorem Wrd.nil (w : World) : Wrd w none 0 0 (fun _ => 0) := ⟨by omega, by omega, fun _ => by decide, fun h => by omega⟩
theorem Wrd.row {w : World} {g n cap : Nat} {f : Nat → Nat} (h : Row w 64 g n cap (fun k => .int .u64 (f k : Nat))) (hf : ∀ j, f j < 18446744073709551616) : Wrd w (some ⟨g, 0, none⟩) n cap f :=
  ⟨h.cap_le, by have := h.cap_max; unfold maxLen at this; omega, hf, fun _ => ⟨g, 0, rfl, h.lt, fun j hj => by rw [Nat.zero_add]; exact h.cell hj⟩⟩

theorem addr_add0 (b o j : Nat) : (⟨b, o, none⟩ : Addr).add j = ⟨b, o + j, none⟩ := by unfold Addr.add; split <;> simp_all

/-- copy, of words that came in, into a row from its start on. -/
theorem run_copy_in {P : Program} {w : World} (dT sT ty elem : TypeId) (hu : P.underlying dT = some (.slice elem)) (hsz : (P.info? elem).map (·.size) = some 1)
    (g k dCap : Nat) (A : Option Addr) (m sCap : Nat) (t : TypeId) (cap : Nat) (fv : Nat → Value) (hg : Row w t g k cap fv) (f : Nat → Nat) (hsrc : Wrd w A m sCap f) :
    ∃ w', (Builtin.copy_ #[dT, sT] ty #[.slice (some ⟨g, 0, none⟩) k dCap, .slice A m sCap]).run P w = .ok (goInt (Nat.min m k)) w' ∧ Row w' t g k cap (fun i => if i < m then .int .u64 (f i : Nat) else fv i) ∧ Keep [g] w w' := by
  by_cases h0 : Nat.min m k = 0
  · refine ⟨w, ?_, hg.congr fun i hi => ?_, Keep.refl _ _⟩
    · rw [h0]
      exact run_copy_none w dT sT ty elem _ _ _ _ _ _ hu hsz h0
    · have : ¬ i < m := by
        intro hm
        have h2 : i < Nat.min m k := Nat.lt_min.2 ⟨hm, hi⟩
        omega
      simp [this]
  · have hmp : 0 < m := by
      rcases Nat.eq_zero_or_pos m with e | e
      · subst e; exact absurd (Nat.min_eq_left (Nat.zero_le k)) h0
      · exact e
    have hmk : Nat.min m k ≤ m ∧ Nat.min m k ≤ k := ⟨Nat.min_le_left _ _, Nat.min_le_right _ _⟩
    have hcs : ∀ i, i < k → (i < Nat.min m k ↔ i < m) := fun i hi => ⟨fun h => Nat.lt_of_lt_of_le h hmk.1, fun h => Nat.lt_min.2 ⟨h, hi⟩⟩
    obtain ⟨b, off, rfl, _, hc⟩ := hsrc.cells hmp
    obtain ⟨c, hcg, e1, e2, e3, hf⟩ := hg
    generalize hq : Nat.min m k = q at *
    have hlen : ((List.range q).map fun j => Value.int .u64 (f j : Nat)).length = q := by simp
    have hrun := run_copy_row (P := P) w dT sT ty elem g 0 k dCap ⟨b, off, none⟩ m sCap c t ((List.range q).map fun j => Value.int .u64 (f j : Nat)) hu hsz hcg (hlen.trans hq.symm) (by
      intro j v hv
      have hj : j < q := by
        have := (List.getElem?_eq_some_iff.1 hv).1
        simpa using this
      have hv' : Value.int .u64 (f j : Nat) = v := by simpa [hj] using hv
      rw [addr_add0, hc j (by omega), hv']) (by simp; omega) (by
      intro v hv
      simp only [List.mem_map, List.mem_range] at hv
      obtain ⟨j, hj, rfl⟩ := hv
      rfl)
    rw [hlen] at hrun
    refine ⟨_, hrun, ⟨_, setRow_heap w g _ _ t _ hcg, ?_, e2, e3, fun i hi => ?_⟩, Keep.setRow w g (by simp) _⟩
    · simp; omega
    · have hsp := get_splice c.toList 0 ((List.range q).map fun j => Value.int .u64 (f j : Nat)) (by simp; omega) i
      unfold splice at hsp
      rw [hlen] at hsp
      rw [List.getElem?_toArray, List.append_assoc, hsp]
      by_cases hin : i < q
      · rw [if_pos (by omega)]
        simp [hin, (hcs i hi).1 hin]
      · have : ¬ i < m := fun hm => hin ((hcs i hi).2 hm)
        rw [if_neg (by omega)]
        simp only [this, if_false]
        have := hf i hi
        simpa using this

theorem u64parts : (Try.prog.info? 64).map (fun i => (i.zero, i.size, i.bytes)) = some (some (.int .u64 0), 1, 8) := by kernel_rfl
theorem u64size : (Try.prog.info? 64).map (·.size) = some 1 := by kernel_rfl
theorem mk_u64 (K : Nat) (hK : K ≤ 65536) (W : World) : (Instr.makeSlice 23 (.int .i64 (K : Nat)) (.int .i64 (K : Nat))).run Try.prog W = .ok (.slice (some ⟨W.heap.size, 0, none⟩) K K) (W.alloc (.cells (madeCells (Value.int .u64 0).cells (K * 1)) 64)) := by
  obtain ⟨i28, hi28, z28a, z28b, z28c⟩ := info_parts u64parts
  have := run_make (P := Try.prog) W 23 64 i28 (.int .u64 0) Try.underlying23 hi28 z28a .i64 .i64 (K : Nat) (K : Nat) (by omega) (by omega) (by rw [z28c]; omega) (by omega)
  rw [z28b] at this
  simpa using this

/-- A map that was not there. -/
def MapPost (n : Nat) (B : Nat → Bool) (w : World) (e : Ending) (w' : World) : Prop :=
  ∃ L : MLoc, e = .returned (.pointer (some ⟨L.m, 0, none⟩)) ∧ Mp w' L n B ∧ w.heap.size ≤ L.m ∧ w.heap.size ≤ L.r ∧ Keep [] w w'

/-- So many bits a map has at most. -/
def clampN (x : Int) : Nat := (min (max x 0) 1048576).toNat
theorem clampN_le (x : Int) : clampN x ≤ 1048576 := by unfold clampN; omega

def cv (len : Nat) (f : Nat → Nat) (k : Nat) : Value := .int .u64 (cpy len f k : Nat)

set_option maxHeartbeats 2000000 in
theorem of_any (w : World) (x : Int) (A : Option Addr) (len cap : Nat) (f : Nat → Nat) (hW : Wrd w A len cap f) :
    Calls Try.prog 15 #[.int .i64 x, .slice A len cap] w (MapPost (clampN x) (ofB (clampN x) len f) w) := by
  have hn1 := clampN_le x
  have hxn : min (max x 0) 1048576 = (clampN x : Int) := by unfold clampN; omega
  generalize clampN x = n at *
  have HX := Lib.hid hxn
  clear hxn
  have hmk := mk_u64 (nw n) (by have := nw_le hn1; omega) w
  have hq : ((n : Int) + 63) / 64 = (nw n : Int) := by unfold nw; omega
  have h63 := i64_and63 n (by omega)
  have hrow := Row.made w 64 (.int .u64 0) rfl (nw n) (by have := nw_le hn1; unfold maxLen; omega)
  have hrw : Keep [] w (w.alloc (.cells (madeCells (Value.int .u64 0).cells (nw n * 1)) 64)) := Keep.alloc _ _
  have hsz : (w.alloc (.cells (madeCells (Value.int .u64 0).cells (nw n * 1)) 64)).heap.size = w.heap.size + 1 := by simp
  generalize w.alloc (.cells (madeCells (Value.int .u64 0).cells (nw n * 1)) 64) = W1 at *
  have hbx := Blk.new W1 84 #[.int .i64 n, .slice (some ⟨w.heap.size, 0, none⟩) (nw n) (nw n)]
  rw [hsz] at hbx
  have hkx : Keep [] W1 (W1.alloc (.cells #[.int .i64 n, .slice (some ⟨w.heap.size, 0, none⟩) (nw n) (nw n)] 84)) := Keep.alloc _ _
  have hW2 := hW.keep (hrw.trans hkx)
  have hrow2 := hrow.keep hkx (by simp)
  have hk2 := hrw.trans hkx
  have HH := Lib.hid (And.intro hbx (And.intro hW2 (And.intro hrow2 hk2)))
  clear hbx hW2 hrow2 hk2 hrow hrw hkx
  go_enter Try.func15, Try.ntmps15
  go_upto_region 1 with fail
  go_cut [0] (fun s0 wx => s0 = .int .i64 n ∧ w = wx)
  case first =>
    have hx := HX.out
    rcases Int.lt_or_le x 0 with c | c
    · have e : n = 0 := by omega
      subst e
      go_wp2_with fail
      go_meet
      exact ⟨rfl, rfl⟩
    · rcases Int.lt_or_le 1048576 x with c2 | c2
      · have e : n = 1048576 := by omega
        subst e
        go_wp2_with fail
        go_meet
        exact ⟨rfl, rfl⟩
      · have e : x = n := by omega
        subst e
        go_wp2_with fail
        go_meet
        exact ⟨rfl, rfl⟩
  case rest =>
  obtain ⟨rfl, rfl⟩ := hcut
  go_upto_region 3 with fail
  obtain ⟨hbx, hW2, hrow2, hk2⟩ := HH.out
  have hc1 := (hbx.cell 1).trans rfl
  generalize W1.alloc (.cells #[.int .i64 n, .slice (some ⟨w.heap.size, 0, none⟩) (nw n) (nw n)] 84) = W2 at *
  clear HH hmk
  obtain ⟨W3, hcp, hrow3, hk3⟩ := run_copy_in 23 23 3 64 Try.underlying23 u64size w.heap.size (nw n) (nw n) A len cap 64 (nw n) (fun _ => .int .u64 0) hrow2 f hW2
  have hrow4 : Row W3 64 w.heap.size (nw n) (nw n) (cv len f) := hrow3.congr fun i _ => by
    unfold cv cpy
    by_cases hi : i < len
    · simp [hi]
    · simp [hi]
  have hb3 := hbx.keep hk3 (by simp)
  have hk4 : Keep [] w W3 := ⟨hk3.os.trans hk2.os, hk3.tape.trans hk2.tape, hk3.output.trans hk2.output, Nat.le_trans hk2.size hk3.size, fun k hk hm => (hk3.block k (Nat.lt_of_lt_of_le hk hk2.size) (by simp; omega)).trans (hk2.block k hk hm)⟩
  have d1 := (hb3.cell 1).trans rfl
  generalize hs0 : w.heap.size = s at *
  have HS0 := Lib.hid hs0
  clear hrow2 hW2 hbx hrow3 hk3 hk2 hs0 hsz HX
  by_cases hl : n % 64 = 0
  · rw [hl] at h63
    have h63 : bits BinOp.and IntKind.i64 (n : Int) 63 = 0 := h63
    have hfin : Mp W3 ⟨s + 1, s, nw n⟩ n (ofB n len f) := ⟨hb3, hrow4.congr fun k hk => by
      unfold cv wv
      rw [cpy_pack (n := n) hW.lt (by unfold nw at hk; omega)], by simp, hn1, ofB_tidy n len f⟩
    have HF := Lib.hid (And.intro hfin hk4)
    clear hrow4 hb3 hfin hk4
    go_wp2_with fail
    go_ret
    exact ⟨⟨s + 1, s, nw n⟩, rfl, HF.out.1, by rw [HS0.out]; dsimp only; omega, by rw [HS0.out]; exact Nat.le_refl _, HF.out.2⟩
  · have hk : n / 64 < nw n := by unfold nw; omega
    have q1 : (0 : Int) ≤ (n : Int) / 64 := by omega
    have q2 : (n : Int) / 64 < (nw n : Int) := by omega
    have q3 : ((n : Int) / 64).toNat = n / 64 := by omega
    have q4 : ((n : Int) % 64 == 0) = false := by simp; omega
    have q5 : ((n : Int) % 64 != 0) = true := by simp; omega
    have h63' : ((n % 64 : Nat) : Int) = (n : Int) % 64 := by omega
    have c1 := (hb3.cell 1).trans rfl
    have c2 := hrow4.cell hk
    have hz := hrow4.frozen (n / 64)
    unfold cv at c2
    have hs : ∀ (W : World), Keep [] W3 W → Calls Try.prog 42 #[.int .u64 (cpy len f (n / 64) : Nat), .int .i64 0, .int .i64 ((n : Int) % 64)] W fun e w' => e = .returned (.int .u64 (pack (ofB n len f) (n / 64) : Nat)) ∧ Keep [] W3 w' := by
      intro W hWW
      have := get_any (cpy len f (n / 64)) 0 (n % 64) (cpy_lt hW.lt _) (by omega) W
      rw [cpy_last hW.lt, h63'] at this
      exact this.mono fun e w' ⟨h1, h2⟩ => ⟨h1, hWW.trans (Keep.dr h2)⟩
    have HS := Lib.hid hs
    have hfin : ∀ W, Keep [] W3 W → Mp (W.setCell ⟨s, n / 64, none⟩ (.int .u64 (pack (ofB n len f) (n / 64) : Nat))) ⟨s + 1, s, nw n⟩ n (ofB n len f) ∧ Keep [] w (W.setCell ⟨s, n / 64, none⟩ (.int .u64 (pack (ofB n len f) (n / 64) : Nat))) := fun W hWW => by
      refine ⟨⟨(hb3.keep hWW (by simp)).far (by simp) _, ((hrow4.keep hWW (by simp)).set_ (n / 64) _).congr fun k hk2 => ?_, by simp, hn1, ofB_tidy n len f⟩, ?_⟩
      · unfold cv wv
        by_cases e : k = n / 64
        · simp only [e, if_true]
        · simp only [e, if_false]
          rw [cpy_pack (n := n) hW.lt (by unfold nw at hk2; omega)]
      · have hj : Keep [s] W (W.setCell ⟨s, n / 64, none⟩ (.int .u64 (pack (ofB n len f) (n / 64) : Nat))) := Keep.setCell _ _ (by simp) _
        have hkk := hk4.trans hWW
        have es := HS0.out
        exact ⟨hj.os.trans hkk.os, hj.tape.trans hkk.tape, hj.output.trans hkk.output, Nat.le_trans hkk.size hj.size, fun k hk hm => (hj.block k (Nat.lt_of_lt_of_le hk hkk.size) (by simp; omega)).trans (hkk.block k hk hm)⟩
    have HF := Lib.hid hfin
    have HM := Lib.hid (fun (W : World) (hWW : Keep [] W3 W) => And.intro (hb3.keep hWW (by simp)) (hrow4.keep hWW (by simp)))
    have K0 : Keep [] W3 W3 := Keep.refl _ _
    clear hs hfin hrow4 hb3 hk4 d1
    generalize pack (ofB n len f) (n / 64) = y at *
    go_wp2_with fail
    go_region_with (go_at_call 42; refine (HS.out _ (by repeat (first | exact K0 | (with_reducible refine Keep.trans ?_ (Keep.drew _))))).mono ?_; rintro e w2 ⟨rfl, hK⟩; have d1 := ((HM.out w2 hK).1.cell 1).trans rfl; have d2 := (HM.out w2 hK).2.cell hk; have d3 := (HM.out w2 hK).2.frozen (n / 64); unfold cv at d2)
    all_goals
      go_wp2
      go_ret
      exact ⟨⟨s + 1, s, nw n⟩, rfl, (HF.out w2 hK).1, by rw [HS0.out]; dsimp only; omega, by rw [HS0.out]; exact Nat.le_refl _, (HF.out w2 hK).2⟩
end Go.Proofs.Ytfihaaciaobolaa
