/-
  layout.copied: a config with kinds of its own. No conditions but what is in memory.
-/
import Derived.Test.YtbmnhngkmokklaaLcp
namespace Go.Proofs.Ytbmnhngkmokklaa
open Go.RowKit Go.Flo Go.Bit
set_option maxRecDepth 100000

theorem gen_world {P : Program} {c : Code} {Q : Exit → Act → World → Prop} {a : Act} {W : World} {R : World → Prop} (hR : R W) (h : ∀ W', R W' → c.wp P Q a W') : c.wp P Q a W := h W hR

theorem three (w : World) (X Y Z : Array Value) (t1 t2 t3 : TypeId) :
    Blk (((w.alloc (.cells X t1)).alloc (.cells Y t2)).alloc (.cells Z t3)) (w.heap.size + 2) t3 Z ∧ Blk (((w.alloc (.cells X t1)).alloc (.cells Y t2)).alloc (.cells Z t3)) (w.heap.size + 1) t2 Y ∧ Blk (((w.alloc (.cells X t1)).alloc (.cells Y t2)).alloc (.cells Z t3)) w.heap.size t1 X ∧ Keep [] w (((w.alloc (.cells X t1)).alloc (.cells Y t2)).alloc (.cells Z t3)) := by
  have k1 : Keep [] w (w.alloc (.cells X t1)) := Keep.alloc _ _
  have k2 : Keep [] (w.alloc (.cells X t1)) ((w.alloc (.cells X t1)).alloc (.cells Y t2)) := Keep.alloc _ _
  have k3 : Keep [] ((w.alloc (.cells X t1)).alloc (.cells Y t2)) (((w.alloc (.cells X t1)).alloc (.cells Y t2)).alloc (.cells Z t3)) := Keep.alloc _ _
  have b1 := Blk.new w t1 X
  have b2 := Blk.new (w.alloc (.cells X t1)) t2 Y
  have b3 := Blk.new ((w.alloc (.cells X t1)).alloc (.cells Y t2)) t3 Z
  have e1 : (w.alloc (.cells X t1)).heap.size = w.heap.size + 1 := by simp
  have e2 : ((w.alloc (.cells X t1)).alloc (.cells Y t2)).heap.size = w.heap.size + 2 := by simp
  rw [e1] at b2
  rw [e2] at b3
  exact ⟨b3, b2.keep k3 (by simp), (b1.keep k2 (by simp)).keep k3 (by simp), (k1.trans k2).trans k3⟩

theorem mk_kinds (n : Nat) (hn : n ≤ 1000) (W : World) : (Instr.makeSlice 22 (.int .i64 (n : Nat)) (.int .i64 (n : Nat))).run Try.prog W = .ok (.slice (some ⟨W.heap.size, 0, none⟩) n n) (W.alloc (.cells (madeCells #[.slice none 0 0] n) 47)) := by
  obtain ⟨i, hi, h1, h2, h3⟩ := info_of kindparts
  have := run_make (P := Try.prog) W 22 47 i (.agg #[.slice none 0 0]) Try.underlying22 hi h1 .i64 .i64 (n : Nat) (n : Nat) (by omega) (by omega) (by rw [h3]; omega) (by omega)
  rw [h2] at this
  simpa [Value.cells] using this

theorem Blk.made {W : World} {g : Nat} {t : TypeId} {v : Value} {n : Nat} (hn : n ≤ maxLen) (h : Blk W g t (madeCells #[v] n)) : Row W t g n n (fun _ => v) := by
  refine ⟨_, h, by rw [size_madeCells], Nat.le_refl _, hn, fun i hi => ?_⟩
  simp [madeCells, hi, Nat.mod_one]

/-- Kinds in memory, in blocks from B on. -/
structure KNew (B : Nat) (w : World) (A : Option Addr) (n cap : Nat) (m : Nat → Nat) (f : Nat → Nat → Int) : Prop where
  nc : n ≤ cap
  cells : 0 < n → ∃ b o, A = some ⟨b, o, none⟩ ∧ B ≤ b ∧ b < w.heap.size ∧ ∀ i, i < n → ∃ A' c', w.cell? ⟨b, o + i, none⟩ = some (.slice A' (m i) c') ∧ Ints w A' (m i) c' (f i) ∧ ∀ a, A' = some a → B ≤ a.block
  cap : cap ≤ 9223372036854775807

theorem KNew.krow {B : Nat} {w : World} {A : Option Addr} {n cap : Nat} {m : Nat → Nat} {f : Nat → Nat → Int} (h : KNew B w A n cap m f) : KRow w A n cap m f :=
  ⟨h.nc, h.cap, fun h0 => by
    obtain ⟨b, o, h1, _, h3, h4⟩ := h.cells h0
    exact ⟨b, o, h1, h3, fun i hi => by obtain ⟨A', c', e1, e2, _⟩ := h4 i hi; exact ⟨A', c', e1, e2⟩⟩⟩

theorem KNew.keepO {own : List Nat} {B : Nat} {w w' : World} {A : Option Addr} {n cap : Nat} {m : Nat → Nat} {f : Nat → Nat → Int} (h : KNew B w A n cap m f) (hk : Keep own w w') (hn : ∀ k, B ≤ k → k ∉ own) : KNew B w' A n cap m f :=
  ⟨h.nc, fun h0 => by
    obtain ⟨b, o, h1, h2, h3, h4⟩ := h.cells h0
    refine ⟨b, o, h1, h2, Nat.lt_of_lt_of_le h3 hk.size, fun i hi => ?_⟩
    obtain ⟨A', c', e1, e2, e3⟩ := h4 i hi
    exact ⟨A', c', (hk.cell (p := ⟨b, _, none⟩) h3 (hn b h2)).trans e1, e2.keepO hk (fun a ea => hn _ (e3 a ea)), e3⟩, h.cap⟩

/-- A config that was not there, with kinds of its own. -/
def NewCfg (n : Nat) (m : Nat → Nat) (f : Nat → Nat → Int) (b0 b1 b2 b3 r wk lg : Int) (w : World) (e : Ending) (w' : World) : Prop :=
  ∃ A cap, e = .returned (.agg #[.slice A n cap, .int .i64 b0, .int .i64 b1, .int .i64 b2, .int .i64 b3, .int .i64 r, .int .i64 wk, .int .i64 lg]) ∧ KNew w.heap.size w' A n cap m f ∧ Keep [] w w'

end Go.Proofs.Ytbmnhngkmokklaa
