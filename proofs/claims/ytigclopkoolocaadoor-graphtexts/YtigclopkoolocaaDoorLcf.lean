/-
  Configs: what may be, where the parts of a layout stand, in plain numbers; and what a config's kinds are in memory. No program is named here. Each theorem bears its own conditions.
-/
import Derived.Test.YtigclopkoolocaaDoorMem
import Derived.Test.YtigclopkoolocaaDoorWord
namespace Go.Flo
open Go.RowKit Go.Bit

/-- How many words a field takes. -/
def fw (x : Int) : Nat := if x = 2 then 2 else 1
/-- The words of the first k fields, and one. -/
def sumF (f : Nat → Int) : Nat → Nat
  | 0 => 1
  | k + 1 => sumF f k + fw (f k)
def OkF (x : Int) : Prop := x = 1 ∨ x = 2 ∨ x = 3
instance (x : Int) : Decidable (OkF x) := by unfold OkF; infer_instance
/-- A kind may be. -/
def MayK (m : Nat) (f : Nat → Int) : Prop := 1 ≤ m ∧ m ≤ 15 ∧ (∀ j, j < m → OkF (f j)) ∧ sumF f m ≤ 16
instance (m : Nat) (f : Nat → Int) : Decidable (MayK m f) := by unfold MayK; infer_instance
def MayKs (n : Nat) (m : Nat → Nat) (f : Nat → Nat → Int) : Prop := 1 ≤ n ∧ n ≤ 16 ∧ ∀ i, i < n → MayK (m i) (f i)
instance (n : Nat) (m : Nat → Nat) (f : Nat → Nat → Int) : Decidable (MayKs n m f) := by unfold MayKs; infer_instance
def MayB (b0 b1 b2 b3 : Int) : Prop := (0 ≤ b0 ∧ b0 ≤ 512) ∧ (0 ≤ b1 ∧ b1 ≤ 512) ∧ (0 ≤ b2 ∧ b2 ≤ 512) ∧ (0 ≤ b3 ∧ b3 ≤ 512) ∧ ¬ (b0 = 0 ∧ b1 = 0 ∧ b2 = 0 ∧ b3 = 0)
instance (b0 b1 b2 b3 : Int) : Decidable (MayB b0 b1 b2 b3) := by unfold MayB; infer_instance
def MayR (r wk : Int) : Prop := 0 < r ∧ r ≤ 16 ∧ 0 ≤ wk ∧ wk ≤ 16
instance (r wk : Int) : Decidable (MayR r wk) := by unfold MayR; infer_instance
def MayL (lg : Int) : Prop := 40 ≤ lg ∧ lg ≤ 4096 ∧ lg % 8 = 0
instance (lg : Int) : Decidable (MayL lg) := by unfold MayL; infer_instance
/-- A config may be. -/
def MayC (n : Nat) (m : Nat → Nat) (f : Nat → Nat → Int) (b0 b1 b2 b3 r wk lg : Int) : Prop := MayKs n m f ∧ MayB b0 b1 b2 b3 ∧ MayR r wk ∧ MayL lg
instance (n : Nat) (m : Nat → Nat) (f : Nat → Nat → Int) (b0 b1 b2 b3 r wk lg : Int) : Decidable (MayC n m f b0 b1 b2 b3 r wk lg) := by unfold MayC; infer_instance
/-- What May answers. -/
def mayE (n : Nat) (m : Nat → Nat) (f : Nat → Nat → Int) (b0 b1 b2 b3 r wk lg : Int) : Int := if MayC n m f b0 b1 b2 b3 r wk lg then 0 else 1

theorem sumF_le (f : Nat → Int) (k : Nat) : sumF f k ≤ 1 + 2 * k := by
  induction k with
  | zero => simp [sumF]
  | succ k ih => simp only [sumF, fw]; split <;> omega
theorem sumF_ge (f : Nat → Int) (k : Nat) : 1 + k ≤ sumF f k := by
  induction k with
  | zero => simp [sumF]
  | succ k ih => simp only [sumF, fw]; split <;> omega

/-- A config's numbers. -/
structure Cf where
  n : Nat
  b0 : Nat
  b1 : Nat
  b2 : Nat
  b3 : Nat
  r : Nat
  wk : Nat
  lg : Nat
structure Cf.Ok (C : Cf) : Prop where
  n1 : 1 ≤ C.n
  n : C.n ≤ 16
  b0 : C.b0 ≤ 512
  b1 : C.b1 ≤ 512
  b2 : C.b2 ≤ 512
  b3 : C.b3 ≤ 512
  all : 1 ≤ C.b0 + C.b1 + C.b2 + C.b3
  r1 : 1 ≤ C.r
  r : C.r ≤ 16
  wk : C.wk ≤ 16
  lg1 : 40 ≤ C.lg
  lg : C.lg ≤ 4096
  lg8 : C.lg % 8 = 0
def ln (x : Nat) : Nat := (x + 7) / 8 * 8
def Cf.f1 (C : Cf) : Nat := C.b0
def Cf.f2 (C : Cf) : Nat := C.b0 + C.b1
def Cf.f3 (C : Cf) : Nat := C.b0 + C.b1 + C.b2
def Cf.all (C : Cf) : Nat := C.b0 + C.b1 + C.b2 + C.b3
def Cf.roots (C : Cf) : Nat := ln (9 + C.n)
def Cf.bits (C : Cf) : Nat := ln (C.roots + C.r + C.wk)
def Cf.log (C : Cf) : Nat := ln (C.bits + (C.all + 63) / 64)
def Cf.s0 (C : Cf) : Nat := ln (C.log + C.lg)
def Cf.s1 (C : Cf) : Nat := C.s0 + C.b0 * 2
def Cf.s2 (C : Cf) : Nat := C.s1 + C.b1 * 4
def Cf.s3 (C : Cf) : Nat := C.s2 + C.b2 * 8
def Cf.words (C : Cf) : Nat := ln (C.s3 + C.b3 * 16)
theorem ln_le (x : Nat) : ln x ≤ x + 7 := by unfold ln; omega
theorem ln_ge (x : Nat) : x ≤ ln x := by unfold ln; omega
theorem ln_mod (x : Nat) : ln x % 8 = 0 := by unfold ln; omega
theorem ln_of {x : Nat} (h : x % 8 = 0) : ln x = x := by unfold ln; omega
section
variable {C : Cf} (h : C.Ok)
include h
theorem Cf.Ok.roots_le : C.roots ≤ 32 := by have := ln_le (9 + C.n); have := h.n; unfold Cf.roots; omega
theorem Cf.Ok.bits_le : C.bits ≤ 71 := by have := ln_le (C.roots + C.r + C.wk); have := h.roots_le; have := h.r; have := h.wk; unfold Cf.bits; omega
theorem Cf.Ok.all_le : C.all ≤ 2048 := by have := h.b0; have := h.b1; have := h.b2; have := h.b3; unfold Cf.all; omega
theorem Cf.Ok.log_le : C.log ≤ 120 := by have := ln_le (C.bits + (C.all + 63) / 64); have := h.bits_le; have := h.all_le; unfold Cf.log; omega
theorem Cf.Ok.s0_eq : C.s0 = C.log + C.lg := by
  unfold Cf.s0
  refine ln_of ?_
  have := ln_mod (C.bits + (C.all + 63) / 64)
  have := h.lg8
  unfold Cf.log
  omega
theorem Cf.Ok.s0_le : C.s0 ≤ 4216 := by have := h.s0_eq; have := h.log_le; have := h.lg; omega
theorem Cf.Ok.s1_le : C.s1 ≤ 6000 := by have := h.s0_le; have := h.b0; unfold Cf.s1; omega
theorem Cf.Ok.s2_le : C.s2 ≤ 8100 := by have := h.s1_le; have := h.b1; unfold Cf.s2; omega
theorem Cf.Ok.s3_le : C.s3 ≤ 12300 := by have := h.s2_le; have := h.b2; unfold Cf.s3; omega
theorem Cf.Ok.words_le : C.words ≤ 20600 := by have := ln_le (C.s3 + C.b3 * 16); have := h.s3_le; have := h.b3; unfold Cf.words; omega
end
/-- What may be is a config of such numbers. -/
theorem MayC.cf {n : Nat} {m : Nat → Nat} {f : Nat → Nat → Int} {b0 b1 b2 b3 r wk lg : Int} (h : MayC n m f b0 b1 b2 b3 r wk lg) :
    ∃ C : Cf, C.Ok ∧ C.n = n ∧ b0 = C.b0 ∧ b1 = C.b1 ∧ b2 = C.b2 ∧ b3 = C.b3 ∧ r = C.r ∧ wk = C.wk ∧ lg = C.lg := by
  obtain ⟨⟨k1, k2, _⟩, ⟨x0, x1, x2, x3, x4⟩, ⟨r1, r2, r3, r4⟩, ⟨l1, l2, l3⟩⟩ := h
  refine ⟨⟨n, b0.toNat, b1.toNat, b2.toNat, b3.toNat, r.toNat, wk.toNat, lg.toNat⟩, ⟨k1, k2, ?_, ?_, ?_, ?_, ?_, ?_, ?_, ?_, ?_, ?_, ?_⟩, rfl, ?_, ?_, ?_, ?_, ?_, ?_, ?_⟩ <;> simp only <;> omega

/-- Numbers in memory. -/
structure Ints (w : World) (A : Option Addr) (n cap : Nat) (f : Nat → Int) : Prop where
  nc : n ≤ cap
  nil : A = none → n = 0 ∧ cap = 0
  cap : cap ≤ 9223372036854775807
  cells : 0 < n → ∃ b o, A = some ⟨b, o, none⟩ ∧ b < w.heap.size ∧ ∀ j, j < n → w.cell? ⟨b, o + j, none⟩ = some (.int .i64 (f j))
theorem Ints.keep {w w' : World} {A : Option Addr} {n cap : Nat} {f : Nat → Int} (h : Ints w A n cap f) (hk : Keep [] w w') : Ints w' A n cap f :=
  ⟨h.nc, h.nil, h.cap, fun h0 => by
    obtain ⟨b, o, h1, h3, h4⟩ := h.cells h0
    exact ⟨b, o, h1, Nat.lt_of_lt_of_le h3 hk.size, fun j hj => (hk.cell (p := ⟨b, _, none⟩) h3 (by simp)).trans (h4 j hj)⟩⟩
/-- Kinds in memory: n of them, the ith with m i fields f i. -/
structure KRow (w : World) (A : Option Addr) (n cap : Nat) (m : Nat → Nat) (f : Nat → Nat → Int) : Prop where
  nc : n ≤ cap
  cap : cap ≤ 9223372036854775807
  cells : 0 < n → ∃ b o, A = some ⟨b, o, none⟩ ∧ b < w.heap.size ∧ ∀ i, i < n → ∃ A' c', w.cell? ⟨b, o + i, none⟩ = some (.slice A' (m i) c') ∧ Ints w A' (m i) c' (f i)
theorem KRow.keep {w w' : World} {A : Option Addr} {n cap : Nat} {m : Nat → Nat} {f : Nat → Nat → Int} (h : KRow w A n cap m f) (hk : Keep [] w w') : KRow w' A n cap m f :=
  ⟨h.nc, h.cap, fun h0 => by
    obtain ⟨b, o, h1, h3, h4⟩ := h.cells h0
    refine ⟨b, o, h1, Nat.lt_of_lt_of_le h3 hk.size, fun j hj => ?_⟩
    obtain ⟨A', c', e1, e2⟩ := h4 j hj
    exact ⟨A', c', (hk.cell (p := ⟨b, _, none⟩) h3 (by simp)).trans e1, e2.keep hk⟩⟩
theorem Ints.keepO {own : List Nat} {w w' : World} {A : Option Addr} {n cap : Nat} {f : Nat → Int} (h : Ints w A n cap f) (hk : Keep own w w') (hn : ∀ a, A = some a → a.block ∉ own) : Ints w' A n cap f :=
  ⟨h.nc, h.nil, h.cap, fun h0 => by
    obtain ⟨b, o, h1, h3, h4⟩ := h.cells h0
    exact ⟨b, o, h1, Nat.lt_of_lt_of_le h3 hk.size, fun j hj => (hk.cell (p := ⟨b, _, none⟩) h3 (show b ∉ own from hn _ h1)).trans (h4 j hj)⟩⟩
theorem Ints.congr {w : World} {A : Option Addr} {n cap : Nat} {f f' : Nat → Int} (h : Ints w A n cap f) (he : ∀ j, j < n → f j = f' j) : Ints w A n cap f' :=
  ⟨h.nc, h.nil, h.cap, fun h0 => by
    obtain ⟨b, o, h1, h3, h4⟩ := h.cells h0
    exact ⟨b, o, h1, h3, fun j hj => by rw [← he j hj]; exact h4 j hj⟩⟩
theorem Ints.none (w : World) (f : Nat → Int) : Ints w none 0 0 f := ⟨by omega, fun _ => ⟨rfl, rfl⟩, by omega, fun h => by omega⟩
theorem KRow.none (w : World) (m : Nat → Nat) (f : Nat → Nat → Int) : KRow w none 0 0 m f := ⟨by omega, by omega, fun h => by omega⟩
/-- A call that only adds to memory, seen from an earlier world. -/
theorem Keep.since {own : List Nat} {w w' w'' : World} (h : Keep [] w w') (k : Keep own w' w'') (ho : ∀ k ∈ own, w.heap.size ≤ k) : Keep [] w w'' :=
  ⟨k.os.trans h.os, k.tape.trans h.tape, k.output.trans h.output, Nat.le_trans h.size k.size, fun i hi hm => (k.block i (Nat.lt_of_lt_of_le hi h.size) (fun hx => by have := ho i hx; omega)).trans (h.block i hi hm)⟩
end Go.Flo
