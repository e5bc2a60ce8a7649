/-
  Package bitmap: what a map is in memory, and what its questions (Len, has, Get, ones, Word) return. No conditions but what a map is.
-/
import Derived.Test.YtfihaaciaobolaaBmp
import Derived.Test.YtfihaaciaobolaaJump
import Derived.Test.YtfihaaciaobolaaMem
namespace Go.Proofs.Ytfihaaciaobolaa
open Go.RowKit Go.Flo Go.Bit Go.Bmp
set_option maxRecDepth 100000

/-- Where a map lies. -/
structure MLoc where
  m : Nat
  r : Nat
  c : Nat
def MLoc.own (L : MLoc) : List Nat := [L.m, L.r]
/-- A map's word as a value. -/
def wv (B : Nat → Bool) (k : Nat) : Value := .int .u64 (pack B k : Nat)

/-- A map of n bits. -/
structure Mp (w : World) (L : MLoc) (n : Nat) (B : Nat → Bool) : Prop where
  blk : Blk w L.m 84 #[.int .i64 n, .slice (some ⟨L.r, 0, none⟩) (nw n) L.c]
  row : Row w 64 L.r (nw n) L.c (wv B)
  ne : L.m ≠ L.r
  le : n ≤ 1048576
  tidy : ∀ i, n ≤ i → B i = false

section
variable {w w' : World} {L : MLoc} {n : Nat} {B : Nat → Bool}
theorem Mp.c0 (h : Mp w L n B) : w.cell? ⟨L.m, 0, none⟩ = some (.int .i64 n) := (h.blk.cell 0).trans rfl
theorem Mp.c1 (h : Mp w L n B) : w.cell? ⟨L.m, 1, none⟩ = some (.slice (some ⟨L.r, 0, none⟩) (nw n) L.c) := (h.blk.cell 1).trans rfl
theorem Mp.word (h : Mp w L n B) {k : Nat} (hk : k < nw n) : w.cell? ⟨L.r, k, none⟩ = some (.int .u64 (pack B k : Nat)) := h.row.cell hk
theorem Mp.keep {own : List Nat} (h : Mp w L n B) (hk : Keep own w w') (hm : L.m ∉ own) (hr : L.r ∉ own) : Mp w' L n B := ⟨h.blk.keep hk hm, h.row.keep hk hr, h.ne, h.le, h.tidy⟩
theorem Mp.keep0 (h : Mp w L n B) (hk : Keep [] w w') : Mp w' L n B := h.keep hk (by simp) (by simp)
theorem Mp.dr (h : Mp w L n B) (hk : Dr w w') : Mp w' L n B := h.keep0 (Keep.dr hk)
theorem nw_le {n : Nat} (h : n ≤ 1048576) : nw n ≤ 16384 := by unfold nw; omega
theorem nw_lt {n i : Nat} (h : i < n) : i / 64 < nw n := by unfold nw; omega
end

theorem mlen_any {w : World} {L : MLoc} {n : Nat} {B : Nat → Bool} (h : Mp w L n B) : Calls Try.prog 61 #[.pointer (some ⟨L.m, 0, none⟩)] w fun e w' => e = .returned (.int .i64 n) ∧ w = w' := by
  have c0 := h.c0
  go_enter Try.func61, Try.ntmps61
  go_wp2
  go_ret
  exact ⟨rfl, rfl⟩
theorem mlen_nil (w : World) : Calls Try.prog 61 #[.pointer none] w fun e w' => e = .returned (.int .i64 0) ∧ w = w' := by
  go_enter Try.func61, Try.ntmps61
  go_wp2
  go_ret
  exact ⟨rfl, rfl⟩

theorem mhas_yes {w : World} {L : MLoc} {n : Nat} {B : Nat → Bool} (h : Mp w L n B) (i : Nat) (hi : i < n) : Calls Try.prog 64 #[.pointer (some ⟨L.m, 0, none⟩), .int .i64 i] w fun e w' => e = .returned (.bool true) ∧ w = w' := by
  have hl := mlen_any h
  have h1 : (0 : Int) ≤ i := by omega
  have h2 : (i : Int) < n := by omega
  go_enter Try.func64, Try.ntmps64
  go_wp2_with fail
  (with_reducible refine hl.mono ?_)
  rintro e w' ⟨rfl, rfl⟩
  go_wp2
  go_ret
  exact ⟨rfl, rfl⟩
theorem mhas_no {w : World} {L : MLoc} {n : Nat} {B : Nat → Bool} (h : Mp w L n B) (i : Int) (hi : i < 0 ∨ n ≤ i) : Calls Try.prog 64 #[.pointer (some ⟨L.m, 0, none⟩), .int .i64 i] w fun e w' => e = .returned (.bool false) ∧ w = w' := by
  have hl := mlen_any h
  by_cases h1 : 0 ≤ i
  · have h2 : decide (i < (n : Int)) = false := by simp; omega
    go_enter Try.func64, Try.ntmps64
    go_wp2_with fail
    (with_reducible refine hl.mono ?_)
    rintro e w' ⟨rfl, rfl⟩
    go_wp2
    go_ret
    exact ⟨rfl, rfl⟩
  · go_enter Try.func64, Try.ntmps64
    go_wp2
    go_ret
    exact ⟨rfl, rfl⟩
theorem mhas_nil (w : World) (i : Int) : Calls Try.prog 64 #[.pointer none, .int .i64 i] w fun e w' => e = .returned (.bool false) ∧ w = w' := by
  have hl := mlen_nil w
  by_cases h1 : 0 ≤ i
  · have h2 : decide (i < (0 : Int)) = false := by simp; omega
    go_enter Try.func64, Try.ntmps64
    go_wp2_with fail
    (with_reducible refine hl.mono ?_)
    rintro e w' ⟨rfl, rfl⟩
    go_wp2
    go_ret
    exact ⟨rfl, rfl⟩
  · go_enter Try.func64, Try.ntmps64
    go_wp2
    go_ret
    exact ⟨rfl, rfl⟩

/-- A bit by any number. -/
def gb (B : Nat → Bool) (i : Int) : Bool := decide (0 ≤ i) && B i.toNat
theorem gb_nat (B : Nat → Bool) (i : Nat) : gb B (i : Int) = B i := by simp [gb]
theorem toNat_one (b : Bool) : (((b.toNat : Nat) : Int) == 1) = b := by cases b <;> rfl

theorem mget_nat {w : World} {L : MLoc} {n : Nat} {B : Nat → Bool} (h : Mp w L n B) (i : Nat) (hi : i < n) : Calls Try.prog 49 #[.pointer (some ⟨L.m, 0, none⟩), .int .i64 i] w fun e w' => e = .returned (.bool (B i)) ∧ Dr w w' := by
  have hh := mhas_yes h i hi
  have c1 := h.c1
  have hk := nw_lt hi
  have c2 := h.word hk
  have hle := h.le
  have hg : Calls Try.prog 42 #[.int .u64 (pack B (i / 64) : Nat), .int .i64 ((i : Int) % 64), .int .i64 1] w fun e w' => e = .returned (.int .u64 ((B i).toNat : Nat)) ∧ Dr w w' := by
    have := get_any (pack B (i / 64)) (i % 64) 1 (pack_lt _ _) (by omega) w
    rw [pack_get] at this
    rw [show (i : Int) % 64 = ((i % 64 : Nat) : Int) by omega]
    exact this
  have h63 := i64_and63 i (by omega)
  have ht := toNat_one (B i)
  go_enter Try.func49, Try.ntmps49
  go_wp2_with fail
  (with_reducible refine hh.mono ?_)
  rintro e w' ⟨rfl, rfl⟩
  go_wp2_with fail
  (with_reducible refine hg.mono ?_)
  rintro e w' ⟨rfl, d⟩
  go_wp2
  go_ret
  exact ⟨rfl, d⟩
theorem mget_any {w : World} {L : MLoc} {n : Nat} {B : Nat → Bool} (h : Mp w L n B) (i : Int) : Calls Try.prog 49 #[.pointer (some ⟨L.m, 0, none⟩), .int .i64 i] w fun e w' => e = .returned (.bool (gb B i)) ∧ Dr w w' := by
  by_cases hi : 0 ≤ i ∧ i < n
  · obtain ⟨k, rfl⟩ := Int.eq_ofNat_of_zero_le hi.1
    rw [gb_nat]
    exact mget_nat h k (by omega)
  · have e : gb B i = false := by
      unfold gb
      by_cases h0 : 0 ≤ i
      · rw [h.tidy i.toNat (by omega)]; simp
      · simp [h0]
    rw [e]
    have hh := mhas_no h i (by omega)
    go_enter Try.func49, Try.ntmps49
    go_wp2_with fail
    (with_reducible refine hh.mono ?_)
    rintro e w' ⟨rfl, rfl⟩
    go_wp2
    go_ret
    exact ⟨rfl, Dr.refl _⟩
theorem mget_nil (w : World) (i : Int) : Calls Try.prog 49 #[.pointer none, .int .i64 i] w fun e w' => e = .returned (.bool false) ∧ w = w' := by
  have hh := mhas_nil w i
  go_enter Try.func49, Try.ntmps49
  go_wp2_with fail
  (with_reducible refine hh.mono ?_)
  rintro e w' ⟨rfl, rfl⟩
  go_wp2
  go_ret
  exact ⟨rfl, rfl⟩

theorem not_bits (x : Nat) (hx : x < 18446744073709551616) : bits BinOp.xor IntKind.u64 IntKind.u64.max (x : Int) = ((18446744073709551615 - x : Nat) : Int) := by
  have e3 : IntKind.u64.max = ((18446744073709551615 : Nat) : Int) := by decide
  rw [e3, u64_xor_nat _ _ (by decide) hx, comp_xor _ hx]

theorem mones_any {w : World} {L : MLoc} {n : Nat} {B : Nat → Bool} (h : Mp w L n B) (k : Nat) (hk : k < nw n) (b : Bool) : Calls Try.prog 62 #[.pointer (some ⟨L.m, 0, none⟩), .int .i64 k, .bool b] w fun e w' => e = .returned (.int .u64 (pack (fun i => B i == b) k : Nat)) ∧ w = w' := by
  have c1 := h.c1
  have c2 := h.word hk
  cases b
  · rw [pack_not]
    have hx := not_bits (pack B k) (pack_lt _ _)
    go_enter Try.func62, Try.ntmps62
    go_wp2
    go_ret
    exact ⟨rfl, rfl⟩
  · rw [pack_is]
    go_enter Try.func62, Try.ntmps62
    go_wp2
    go_ret
    exact ⟨rfl, rfl⟩

/-- A word by any number. -/
def gw (B : Nat → Bool) (i : Int) : Nat := if 0 ≤ i then pack B i.toNat else 0
theorem gw_nat (B : Nat → Bool) (i : Nat) : gw B (i : Int) = pack B i := by simp [gw]
theorem Mp.far {w : World} {L : MLoc} {n : Nat} {B : Nat → Bool} (h : Mp w L n B) {k : Nat} (hk : nw n ≤ k) : pack B k = 0 := pack_zero fun j _ => h.tidy _ (by unfold nw at hk; omega)

theorem mword_any {w : World} {L : MLoc} {n : Nat} {B : Nat → Bool} (h : Mp w L n B) (i : Int) : Calls Try.prog 70 #[.pointer (some ⟨L.m, 0, none⟩), .int .i64 i] w fun e w' => e = .returned (.int .u64 (gw B i : Nat)) ∧ w = w' := by
  have c1 := h.c1
  by_cases h0 : 0 ≤ i
  · obtain ⟨k, rfl⟩ := Int.eq_ofNat_of_zero_le h0
    rw [gw_nat]
    by_cases hk : k < nw n
    · have c2 := h.word hk
      have h2 : (k : Int) < (nw n : Int) := by omega
      go_enter Try.func70, Try.ntmps70
      go_wp2
      go_ret
      exact ⟨rfl, rfl⟩
    · have h2 : ¬ (k : Int) < (nw n : Int) := by omega
      have hz := Lib.hid (h.far (show nw n ≤ k by omega))
      go_enter Try.func70, Try.ntmps70
      go_wp2
      go_ret
      exact ⟨by rw [hz.out]; rfl, rfl⟩
  · have e : gw B i = 0 := by simp [gw, h0]
    rw [e]
    go_enter Try.func70, Try.ntmps70
    go_wp2
    go_ret
    exact ⟨rfl, rfl⟩
theorem mword_nil (w : World) (i : Int) : Calls Try.prog 70 #[.pointer none, .int .i64 i] w fun e w' => e = .returned (.int .u64 0) ∧ w = w' := by
  go_enter Try.func70, Try.ntmps70
  go_wp2
  go_ret
  exact ⟨rfl, rfl⟩
end Go.Proofs.Ytfihaaciaobolaa
