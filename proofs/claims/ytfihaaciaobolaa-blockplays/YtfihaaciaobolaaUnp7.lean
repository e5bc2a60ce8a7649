/-
  scullionref1.Unpack, Pack: bits as a row of bools. No conditions but what words are, and that there are few bits.
-/
import Derived.Test.YtfihaaciaobolaaMap6
import Derived.Test.YtfihaaciaobolaaLcf
import Derived.Deep.DeepCutAuto
namespace Go.Proofs.Ytfihaaciaobolaa
open Go.RowKit Go.Flo Go.Bit Go.Bmp
set_option maxRecDepth 100000

/-- A bit as a value. -/
def bv (B : Nat → Bool) (k : Nat) : Value := .bool (B k)

/-- A row of bools, in a block that was not there. -/
def BoolsPost (K : Nat) (B : Nat → Bool) (w : World) (e : Ending) (w' : World) : Prop :=
  ∃ g cap, e = .returned (.slice (some ⟨g, 0, none⟩) K cap) ∧ Row w' 4 g K cap (bv B) ∧ w.heap.size ≤ g ∧ Keep [] w w'

theorem boolparts : (Try.prog.info? 4).map (fun i => (i.zero, i.size, i.bytes)) = some (some (.bool false), 1, 1) := by kernel_rfl

theorem mk_bool (K : Nat) (hK : K ≤ 65536) (W : World) : (Instr.makeSlice 37 (.int .i64 (K : Nat)) (.int .i64 (K : Nat))).run Try.prog W = .ok (.slice (some ⟨W.heap.size, 0, none⟩) K K) (W.alloc (.cells (madeCells (Value.bool false).cells (K * 1)) 4)) := by
  obtain ⟨i4, hi4, za, zb, zc⟩ := info_parts boolparts
  have := run_make (P := Try.prog) W 37 4 i4 (.bool false) Try.underlying37 hi4 za .i64 .i64 (K : Nat) (K : Nat) (by omega) (by omega) (by rw [zc]; omega) (by omega)
  rw [zb] at this
  simpa using this

/-- The first j bits alone. -/
def part (B : Nat → Bool) (j : Nat) : Nat → Bool := fun i => decide (i < j) && B i

theorem part_zero (B : Nat → Bool) : part B 0 = fun _ => false := by funext i; simp [part]

theorem part_step (B : Nat → Bool) (j : Nat) : part B (j + 1) = upd (part B j) j (B j) := by
  funext i
  unfold part upd
  by_cases h : i = j
  · subst h; simp
  · have : (i < j + 1) ↔ (i < j) := by omega
    simp [h, this]

theorem part_off (B : Nat → Bool) (j : Nat) : part B j j = false := by simp [part]

theorem part_all {B : Nat → Bool} {K : Nat} (ht : ∀ i, K ≤ i → B i = false) : part B K = B := by
  funext i
  unfold part
  by_cases h : i < K
  · simp [h]
  · simp [h, ht i (by omega)]

def UnRel (w : World) (K : Nat) (B : Nat → Bool) (g : Nat) (x : Value) (wr : World) : Prop :=
  ∃ j : Nat, j ≤ K ∧ x = .int .i64 j ∧ Row wr 4 g K K (bv (part B j)) ∧ Keep [] w wr

theorem _root_.Go.Flo.Row.setB {w : World} {g K cap : Nat} {B : Nat → Bool} (h : Row w 4 g K cap (bv B)) (j : Nat) (b : Bool) : Row (w.setCell ⟨g, j, none⟩ (.bool b)) 4 g K cap (bv (upd B j b)) :=
  (h.set_ j (.bool b)).congr fun k _ => by
    unfold bv upd
    by_cases e : k = j
    · simp [e]
    · simp [e]

theorem testB (x k : Nat) (hx : x < 18446744073709551616) : (bits BinOp.and IntKind.u64 ((x : Int) / 2 ^ k) 1 == 1) = x.testBit k := by
  rw [bit_test x k hx]
  have := bit_val x k
  cases hb : x.testBit k <;> rw [hb] at this <;> simp at this <;> simp [this]

set_option maxHeartbeats 2000000 in
theorem unpack_any (w : World) (x : Int) (hx : x ≤ 1000) (A : Option Addr) (len cap : Nat) (f : Nat → Nat) (hW : Wrd w A len cap f) :
    Calls Try.prog 13 #[.int .i64 x, .slice A len cap] w (BoolsPost x.toNat (ofB x.toNat len f) w) := by
  obtain ⟨K, hK⟩ : ∃ K : Nat, x.toNat = K := ⟨_, rfl⟩
  rw [hK]
  have hKl : K ≤ 1000 := by omega
  have hmk := mk_bool K (by omega) w
  have hrow := Row.made w 4 (.bool false) rfl K (by unfold maxLen; omega)
  have hkw : Keep [] w (w.alloc (.cells (madeCells (Value.bool false).cells (K * 1)) 4)) := Keep.alloc _ _
  have hsz : w.heap.size < (w.alloc (.cells (madeCells (Value.bool false).cells (K * 1)) 4)).heap.size := by simp
  generalize w.alloc (.cells (madeCells (Value.bool false).cells (K * 1)) 4) = W1 at *
  have ht := ofB_tidy K len f
  have hB : ∀ j, j < K → ofB K len f j = (decide (j / 64 < len) && (f (j / 64)).testBit (j % 64)) := fun j hj => by simp [ofB, hj]
  have HB := Lib.hid hB
  have HT := Lib.hid ht
  have hf := hW.lt
  clear hB ht
  generalize ofB K len f = B at *
  have hrow : Row W1 4 w.heap.size K K (bv (part B 0)) := hrow.congr fun i _ => by rw [part_zero]; rfl
  have hWl : len ≤ 9223372036854775807 := Nat.le_trans hW.nc hW.cap
  go_enter Try.func13, Try.ntmps13
  go_upto_region 1 with fail
  go_cut [5] (fun s5 wx => s5 = .slice (some ⟨w.heap.size, 0, none⟩) K K ∧ W1 = wx)
  case first =>
    rcases Int.lt_or_le 0 x with c2 | c2
    · have e : x = K := by omega
      subst e
      go_wp2_with fail
      go_meet
      exact ⟨rfl, rfl⟩
    · have e : K = 0 := by omega
      subst e
      have hmk : (Instr.makeSlice 37 (.int .i64 0) (.int .i64 0)).run Try.prog w = .ok (.slice (some ⟨w.heap.size, 0, none⟩) 0 0) W1 := hmk
      go_wp2_with fail
      go_meet
      exact ⟨rfl, rfl⟩
  case rest =>
  obtain ⟨rfl, rfl⟩ := hcut
  clear hmk
  generalize hg : w.heap.size = g at *
  have HG := Lib.hid hg
  clear hg
  go_wp2_with fail
  go_loopw [13] (fun x wr => UnRel w K B g x wr) (fun x _ => K - (intOf x).toNat)
  case atStart => exact ⟨0, by omega, rfl, hrow, hkw⟩
  case round =>
    obtain ⟨j, hj, rfl, hR, hk⟩ := hrel
    clear hrow hkw hsz
    by_cases hlt : j < K
    · have c1 := hR.cell hlt
      unfold bv at c1
      have z1 := hR.frozen j
      have hval := HB.out j hlt
      by_cases hl : j / 64 < len
      · obtain ⟨b, o, hA, hb, hc⟩ := (hW.keep hk).cells (by omega)
        subst hA
        have c2 := hc _ hl
        have ht := testB (f (j / 64)) (j % 64) (hf _)
        rw [show decide (j / 64 < len) = true from decide_eq_true hl, Bool.true_and] at hval
        rw [← hval] at ht
        have hq : (j : Int) / 64 < (len : Int) := by omega
        have hq2 : ((j : Int) / 64).toNat = j / 64 := by omega
        have hq3 : (0 : Int) ≤ (j : Int) / 64 := by omega
        have HV := Lib.hid hval
        clear hval hc
        go_wp2_with fail
        refine ⟨⟨j + 1, by omega, by go_num, ?_, hk.since (Keep.setCell (own := [g]) _ _ (by simp) _) (by intro k hk; rw [List.mem_singleton] at hk; have := HG.out; omega)⟩, by simp [intOf]; omega⟩
        rw [part_step]
        exact hR.setB j _
      · rw [show decide (j / 64 < len) = false from decide_eq_false hl, Bool.false_and] at hval
        have hq : decide ((j : Int) / 64 < (len : Int)) = false := decide_eq_false (by omega)
        have HV := Lib.hid hval
        clear hval
        go_wp2_with fail
        refine ⟨⟨j + 1, by omega, by go_num, ?_, hk.since (Keep.setCell (own := [g]) _ _ (by simp) _) (by intro k hk; rw [List.mem_singleton] at hk; have := HG.out; omega)⟩, by simp [intOf]; omega⟩
        rw [part_step]
        rw [HV.out]
        exact hR.setB j _
    · have hjK : j = K := by omega
      subst hjK
      rw [part_all HT.out] at hR
      go_wp2
      go_ret
      exact ⟨g, j, rfl, hR, by rw [HG.out]; exact Nat.le_refl _, hk⟩

theorem or_pack (P : Nat → Bool) (j : Nat) : pack P (j / 64) ||| 2 ^ (j % 64) = pack (upd P j true) (j / 64) := by
  have hm : j % 64 < 64 := Nat.mod_lt _ (by decide)
  have hp : 2 ^ (j % 64) < 18446744073709551616 := by
    have : 2 ^ (j % 64) < 2 ^ 64 := Nat.pow_lt_pow_right (by decide) hm
    simpa using this
  refine pack_ext (or_lt64 _ _ (pack_lt _ _) hp) fun i hi => ?_
  rw [Nat.testBit_or, pack_bit, Nat.testBit_two_pow]
  unfold upd
  by_cases e : i = j % 64
  · subst e
    simp [show 64 * (j / 64) + j % 64 = j by omega]
  · have e2 : ¬ j % 64 = i := fun h => e h.symm
    simp [hi, e2, show ¬ 64 * (j / 64) + i = j by omega]

theorem or_bits (P : Nat → Bool) (j : Nat) : bits BinOp.or IntKind.u64 ((pack P (j / 64) : Nat) : Int) (IntKind.u64.wrap (2 ^ (j % 64))) = ((pack (upd P j true) (j / 64) : Nat) : Int) := by
  have hm : j % 64 < 64 := Nat.mod_lt _ (by decide)
  have hp : 2 ^ (j % 64) < 18446744073709551616 := by
    have : 2 ^ (j % 64) < 2 ^ 64 := Nat.pow_lt_pow_right (by decide) hm
    simpa using this
  have e : IntKind.u64.wrap (2 ^ (j % 64)) = ((2 ^ (j % 64) : Nat) : Int) := by
    rw [IntKind.wrap_u64]
    have e2 : ((2 : Int) ^ (j % 64)) = ((2 ^ (j % 64) : Nat) : Int) := by simp
    rw [e2]
    generalize 2 ^ (j % 64) = p at hp
    omega
  rw [e, u64_or_nat _ _ (pack_lt _ _) hp, or_pack]

theorem _root_.Go.Flo.Row.setW {w : World} {g K cap : Nat} {P : Nat → Bool} (h : Row w 64 g K cap (wv P)) (j : Nat) (b : Bool) : Row (w.setCell ⟨g, j / 64, none⟩ (.int .u64 (pack (upd P j b) (j / 64) : Nat))) 64 g K cap (wv (upd P j b)) :=
  (h.set_ (j / 64) _).congr fun k _ => by
    unfold wv
    by_cases e : k = j / 64
    · simp [e]
    · simp [e, pack_upd_far P b e]

def PkRel (w : World) (K : Nat) (B : Nat → Bool) (g : Nat) (x : Value) (wr : World) : Prop :=
  ∃ j : Nat, j ≤ K ∧ x = .int .i64 j ∧ Row wr 64 g (nw K) (nw K) (wv (part B j)) ∧ Keep [] w wr

set_option maxHeartbeats 2000000 in
theorem pack_any (w : World) (gb cb K : Nat) (B : Nat → Bool) (hKl : K ≤ 1000) (hb : Row w 4 gb K cb (bv B)) (ht : ∀ i, K ≤ i → B i = false) :
    Calls Try.prog 30 #[.slice (some ⟨gb, 0, none⟩) K cb] w (WordsPost K B w) := by
  have hnw := nw_le (show K ≤ 1048576 by omega)
  have hmk := mk_u64 (nw K) (by omega) w
  have hrow := Row.made w 64 (.int .u64 0) rfl (nw K) (by unfold maxLen; omega)
  have hkw : Keep [] w (w.alloc (.cells (madeCells (Value.int .u64 0).cells (nw K * 1)) 64)) := Keep.alloc _ _
  generalize w.alloc (.cells (madeCells (Value.int .u64 0).cells (nw K * 1)) 64) = W1 at *
  have hrow : Row W1 64 w.heap.size (nw K) (nw K) (wv (part B 0)) := hrow.congr fun i _ => by
    rw [part_zero]
    unfold wv
    rw [pack_zero fun _ _ => rfl]
    rfl
  have hq : ((K : Int) + 63).tdiv 64 = (nw K : Int) := by rw [Int.tdiv_eq_ediv_of_nonneg (by omega)]; unfold nw; omega
  have hq' : ((K : Int) + 63) / 64 = (nw K : Int) := by unfold nw; omega
  have HB := Lib.hid hb
  have HT := Lib.hid ht
  clear hb ht
  have hgl := HB.out.lt
  go_enter Try.func30, Try.ntmps30
  go_wp2_with fail
  generalize hg : w.heap.size = g at *
  have HG := Lib.hid hg
  clear hg
  go_loopw [13] (fun x wr => PkRel w K B g x wr) (fun x _ => K - (intOf x).toNat)
  case atStart => exact ⟨0, by omega, rfl, hrow, hkw⟩
  case round =>
    obtain ⟨j, hj, rfl, hR, hk⟩ := hrel
    clear hrow hkw hmk
    by_cases hlt : j < K
    · have cb := (HB.out.keep hk (by simp)).cell hlt
      unfold bv at cb
      have hlw := nw_lt hlt
      have c1 := hR.cell hlw
      unfold wv at c1
      have z1 := hR.frozen (j / 64)
      have hq1 : (j : Int) / 64 < (nw K : Int) := by omega
      have hq2 : ((j : Int) / 64).toNat = j / 64 := by omega
      have hq3 : (0 : Int) ≤ (j : Int) / 64 := by omega
      have hor := or_bits (part B j) j
      cases hbj : B j
      · rw [hbj] at cb
        have hps : part B (j + 1) = part B j := by rw [part_step, hbj, ← part_off B j, upd_self]
        have HP := Lib.hid hps
        clear hps hbj hor
        go_wp2_with fail
        refine ⟨⟨j + 1, by omega, by go_num, ?_, hk⟩, by simp [intOf]; omega⟩
        rw [HP.out]
        exact hR
      · rw [hbj] at cb
        have hps : part B (j + 1) = upd (part B j) j true := by rw [part_step, hbj]
        have HP := Lib.hid hps
        have HRR := Lib.hid (hR.setW j true)
        clear hps hbj
        generalize pack (upd (part B j) j true) (j / 64) = y at *
        go_wp2_with fail
        refine ⟨⟨j + 1, by omega, by go_num, ?_, hk.since (Keep.setCell (own := [g]) _ _ (by simp) _) (by intro k hk; rw [List.mem_singleton] at hk; have := HG.out; omega)⟩, by simp [intOf]; omega⟩
        rw [HP.out]
        exact HRR.out
    · have hjK : j = K := by omega
      subst hjK
      rw [part_all HT.out] at hR
      go_wp2
      go_ret
      exact ⟨g, nw j, rfl, hR, by rw [HG.out]; exact Nat.le_refl _, hk⟩

end Go.Proofs.Ytfihaaciaobolaa
