/-
  Package kind: Refs, Word, Same (slices.Equal). No conditions but what is in memory.
-/
import Derived.Test.YtbmnhngkmokklaaKnd1
import Derived.Test.YtbmnhngkmokklaaR67
namespace Go.Flo
open Go.RowKit Go.Bit

/-- The places of the references among the first k fields. -/
def rfs (f : Nat → Int) : Nat → List Nat
  | 0 => []
  | k + 1 => if f k = 3 then rfs f k ++ [k] else rfs f k
theorem rfs_len (f : Nat → Int) (k : Nat) : (rfs f k).length ≤ k := by
  induction k with
  | zero => simp [rfs]
  | succ k ih => unfold rfs; split <;> (try simp) <;> omega
/-- The places as numbers. -/
def rff (f : Nat → Int) (k j : Nat) : Int := (((rfs f k).getD j 0 : Nat) : Int)
def kwz (m : Nat) (f : Nat → Int) : Nat := if MayK m f then kw m f else 0
end Go.Flo
namespace Go.Proofs.Ytbmnhngkmokklaa
open Go.RowKit Go.Flo Go.Bit
set_option maxRecDepth 100000

theorem rfs_map (f : Nat → Int) (k : Nat) : (rfs f k).map (fun i => Value.int .i64 (i : Nat)) = (List.range (rfs f k).length).map (iv (rff f k)) := by
  apply List.ext_getElem (by simp)
  intro i h1 h2
  have h3 : i < (rfs f k).length := by simpa using h1
  simp [iv, rff, h3]

/-- What Refs tells. -/
def RefPost (m : Nat) (f : Nat → Int) (w : World) (e : Ending) (w' : World) : Prop :=
  ∃ A c, e = .returned (.slice A (rfs f m).length c) ∧ Ints w' A (rfs f m).length c (rff f m) ∧ (∀ a, A = some a → w.heap.size ≤ a.block) ∧ Keep [] w w'
def RfRel (w : World) (m : Nat) (f : Nat → Int) (x y : Value) (wr : World) : Prop :=
  ∃ j : Nat, j ≤ m ∧ y = .int .i64 j ∧ wr.ownsRow (w.heap.size + 1) 3 1 x (rfs f j).length ((rfs f j).map (fun i => Value.int .i64 (i : Nat))) ∧ Keep [] w wr

end Go.Proofs.Ytbmnhngkmokklaa
