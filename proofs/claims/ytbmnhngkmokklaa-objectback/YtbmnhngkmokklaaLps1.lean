/-
  Package layout: kindWord, parseKind, parseKinds. No conditions but what is in memory.
-/
import Derived.Test.YtbmnhngkmokklaaKwd
import Derived.Test.YtbmnhngkmokklaaLcq
import Derived.BigQuiet
import Derived.Deep.QuietTactic
namespace Go.Proofs.Ytbmnhngkmokklaa
open Go.RowKit Go.Flo Go.Bit
set_option maxRecDepth 100000

theorem results_cell_tmp {P : Program} {fn : Func} {p q : Tmp} {ty : TypeId} (h : fn.results = #[.cell p ty, .tmp q]) (tmps : Array Value) (w : World) (g : Nat) (t : TypeId) (cs : Array Value) (fr : Nat × Nat) (d : TypeDesc) (v : Value)
    (hp : tmps.getD p undef = .pointer (some ⟨g, 0, none⟩)) (hq : tmps.getD q undef = v) (hg : w.heap[g]? = some (.cells cs t fr))
    (hu : P.underlying ty = some d) (hd : (match d with | .struct _ | .array _ _ => true | _ => false) = true) (hi : (P.info? ty).map (·.size) = some cs.size) :
    (results fn tmps).run P w = .ok (.tuple #[.agg cs, v]) w := by
  have hp' : tmps[p]?.getD undef = .pointer (some ⟨g, 0, none⟩) := by simpa using hp
  have hq' : tmps[q]?.getD undef = v := by simpa using hq
  simp [results, h, hp', hq', asAddr, run_loadVar_row w g t ty cs fr d hg hu hd hi]

/-- Words in memory, as numbers. -/
structure Wrd (w : World) (A : Option Addr) (n cap : Nat) (f : Nat → Nat) : Prop where
  nc : n ≤ cap
  cap : cap ≤ 9223372036854775807
  lt : ∀ j, f j < 18446744073709551616
  cells : 0 < n → ∃ b o, A = some ⟨b, o, none⟩ ∧ b < w.heap.size ∧ ∀ j, j < n → w.cell? ⟨b, o + j, none⟩ = some (.int .u64 (f j : Nat))
theorem Wrd.keep {w w' : World} {A : Option Addr} {n cap : Nat} {f : Nat → Nat} (h : Wrd w A n cap f) (hk : Keep [] w w') : Wrd w' A n cap f :=
  ⟨h.nc, h.cap, h.lt, fun h0 => by
    obtain ⟨b, o, h1, h3, h4⟩ := h.cells h0
    exact ⟨b, o, h1, Nat.lt_of_lt_of_le h3 hk.size, fun j hj => (hk.cell (p := ⟨b, _, none⟩) h3 (by simp)).trans (h4 j hj)⟩⟩
theorem Wrd.nil (w : World) : Wrd w none 0 0 (fun _ => 0) := ⟨by omega, by omega, fun _ => by decide, fun h => by omega⟩
theorem Wrd.row {w : World} {g n cap : Nat} {f : Nat → Nat} (h : Row w 24 g n cap (fun k => .int .u64 (f k : Nat))) (hf : ∀ j, f j < 18446744073709551616) : Wrd w (some ⟨g, 0, none⟩) n cap f :=
  ⟨h.cap_le, by have := h.cap_max; unfold maxLen at this; omega, hf, fun _ => ⟨g, 0, rfl, h.lt, fun j hj => by rw [Nat.zero_add]; exact h.cell hj⟩⟩

theorem int_nat (x : Nat) (hx : x < 18446744073709551616) (w : World) : Calls Try.prog 48 #[.int .i64 x] w fun e w' => e = .returned (.int .u64 x) ∧ w = w' :=
  (int_any x w).mono fun _ _ ⟨a, b⟩ => ⟨a.trans (ret_u64 (by rw [IntKind.wrap_u64]; omega)), b⟩

theorem intI (x : Int) (n : Nat) (hx : x = n) (hn : n < 18446744073709551616) (w : World) : Calls Try.prog 48 #[.int .i64 x] w fun e w' => e = .returned (.int .u64 (n : Nat)) ∧ w = w' := by
  subst hx
  exact int_nat n hn w

def KwRel (w : World) (m : Nat) (f : Nat → Int) (x y : Value) (wr : World) : Prop := ∃ j : Nat, j ≤ m ∧ y = .int .i64 j ∧ x = .int .u64 (kwA m f j : Nat) ∧ Keep [] w wr

theorem mk_ints (n : Nat) (hn : n ≤ 1000) (W : World) : (Instr.makeSlice 45 (.int .u64 (n : Nat)) (.int .u64 (n : Nat))).run Try.prog W = .ok (.slice (some ⟨W.heap.size, 0, none⟩) n n) (W.alloc (.cells (madeCells #[.int .i64 0] n) 3)) := by
  obtain ⟨i, hi, h1, h2, h3⟩ := info_of intparts
  have := run_make (P := Try.prog) W 45 3 i (.int .i64 0) Try.underlying45 hi h1 .u64 .u64 (n : Nat) (n : Nat) (by omega) (by omega) (by rw [h3]; omega) (by omega)
  rw [h2] at this
  simpa [Value.cells] using this

/-- What parseKind tells. -/
def PkPost (x : Nat) (w : World) (e : Ending) (w' : World) : Prop :=
  ∃ g, e = .returned (.tuple #[.agg #[.slice (some ⟨g, 0, none⟩) (pm x) (pm x)], .bool (decide (Up x))]) ∧ Ints w' (some ⟨g, 0, none⟩) (pm x) (pm x) (pf x) ∧ w.heap.size ≤ g ∧ Keep [] w w'
def PkRel (w : World) (x : Nat) (y : Value) (wr : World) : Prop :=
  ∃ j : Nat, j ≤ pm x ∧ y = .int .i64 j ∧ Row wr 3 (w.heap.size + 1) (pm x) (pm x) (fun i => if i < j then iv (pf x) i else .int .i64 0) ∧ Blk wr w.heap.size 47 #[.slice none 0 0] ∧ Keep [] w wr

end Go.Proofs.Ytbmnhngkmokklaa
