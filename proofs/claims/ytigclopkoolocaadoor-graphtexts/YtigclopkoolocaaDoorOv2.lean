/-
  Package value: Words, Of; the document's twin's ValueWords, ValueOf; scullionref1.SameWords: what each returns. Conditions: what is in memory.
-/
import Derived.Test.YtigclopkoolocaaDoorOv1
import Derived.BigRegion
namespace Go.Flo
open Go.RowKit

/-- A slice of words in memory. -/
structure Wd (w : World) (A : Option Addr) (l : List Int) : Prop where
  len : l.length ≤ 9223372036854775807
  cells : 0 < l.length → ∃ b o, A = some ⟨b, o, none⟩ ∧ b < w.heap.size ∧ ∀ j, j < l.length → w.cell? ⟨b, o + j, none⟩ = some (.int .u64 (l.getD j 0))

theorem Wd.keep {w w' : World} {A : Option Addr} {l : List Int} (h : Wd w A l) (hk : Keep [] w w') : Wd w' A l :=
  ⟨h.len, fun h0 => by
    obtain ⟨b, o, h1, h3, h4⟩ := h.cells h0
    exact ⟨b, o, h1, Nat.lt_of_lt_of_le h3 hk.size, fun j hj => (hk.cell (p := ⟨b, _, none⟩) h3 (by simp)).trans (h4 j hj)⟩⟩

theorem Wd.nil (w : World) (A : Option Addr) : Wd w A [] := ⟨by simp, fun h => by simp at h⟩

theorem Wd.blk {w : World} {g : Nat} {t : TypeId} {cs : Array Value} {l : List Int} (h : Blk w g t cs) (hl : l.length ≤ 2) (he : ∀ j, j < l.length → cs[j]? = some (.int .u64 (l.getD j 0))) : Wd w (some ⟨g, 0, none⟩) l :=
  ⟨by omega, fun _ => ⟨g, 0, rfl, h.lt, fun j hj => by rw [Nat.zero_add, h.cell]; exact he j hj⟩⟩

/-- The words of a field. -/
def wordsV (kind : Int) (v : Val) : Option (List Int) :=
  if kind = 1 ∧ v.K = 1 then some [IntKind.u64.wrap v.n] else if kind = 2 ∧ v.K = 2 then some [v.p, v.q] else if kind = 3 ∧ v.K = 0 then some [0]
  else if kind = 3 ∧ v.K = 3 ∧ 0 ≤ v.r ∧ v.r ≤ 1099511627776 then some [v.r + 1] else none

def WPost (o : Option (List Int)) (w : World) (e : Ending) (w' : World) : Prop :=
  ∃ A, e = .returned (.tuple #[.slice A (o.getD []).length (o.getD []).length, .bool o.isSome]) ∧ Wd w' A (o.getD []) ∧ Keep [] w w'

/-- A field's words as a value. -/
def ofV (kind : Int) (l : List Int) : Option Val :=
  match l with
  | [x] => if kind = 1 then some ⟨1, wrap64 x, 0, 0, 0⟩ else if kind = 3 then (if x = 0 then some z0 else if x ≤ 1099511627777 then some ⟨3, 0, 0, 0, x - 1⟩ else none) else none
  | [x, y] => if kind = 2 then some ⟨2, 0, x, y, 0⟩ else none
  | _ => none

theorem ofV_one (kind x : Int) : ofV kind [x] = if kind = 1 then some ⟨1, wrap64 x, 0, 0, 0⟩ else if kind = 3 then (if x = 0 then some z0 else if x ≤ 1099511627777 then some ⟨3, 0, 0, 0, x - 1⟩ else none) else none := rfl
theorem ofV_two (kind x y : Int) : ofV kind [x, y] = if kind = 2 then some ⟨2, 0, x, y, 0⟩ else none := rfl

def OPost (o : Option Val) (w : World) (e : Ending) (w' : World) : Prop :=
  e = .returned (.tuple #[.agg #[.int .i64 (o.getD z0).K, .int .i64 (o.getD z0).n, .int .u64 (o.getD z0).p, .int .u64 (o.getD z0).q, .int .i64 (o.getD z0).r], .bool o.isSome]) ∧ Keep [] w w'
end Go.Flo
namespace Go.Proofs.YtigclopkoolocaaDoor
open Go.RowKit Go.Flo
set_option maxRecDepth 100000

theorem wrap_of {x : Int} (h0 : 0 ≤ x) (h1 : x < 18446744073709551616) : IntKind.u64.wrap x = x := by
  simp [IntKind.wrap, IntKind.bits, IntKind.signed]
  omega
theorem wrap64_of {x : Int} (h0 : -9223372036854775808 ≤ x) (h1 : x < 9223372036854775808) : wrap64 x = x := by unfold wrap64; omega

end Go.Proofs.YtigclopkoolocaaDoor
