/-
  The document's twin of layout: ParseKind. No conditions but what is in memory.
-/
import Derived.Test.YtbmnhngkmokklaaR66
namespace Go.Proofs.Ytbmnhngkmokklaa
open Go.RowKit Go.Flo Go.Bit
set_option maxRecDepth 100000

def RPkPost (x : Nat) (w : World) (e : Ending) (w' : World) : Prop :=
  (RPk x ∧ RPkYes x w e w') ∨ (¬ RPk x ∧ e = .returned (.tuple #[.agg #[.slice none 0 0], .bool false]) ∧ Keep [] w w')

def RpRel (w : World) (x : Nat) (y : Value) (wr : World) : Prop :=
  ∃ (j : Nat) (v : Value), j ≤ pm x ∧ y = .int .i64 j ∧ wr.ownsRow (w.heap.size + 2) 3 1 v j ((List.range j).map (iv (pf x))) ∧ Blk wr (w.heap.size + 1) 47 #[v] ∧ Blk wr w.heap.size 47 #[.slice none 0 0] ∧ Keep [] w wr

theorem two (w : World) (X Y : Array Value) (t1 t2 : TypeId) :
    Blk ((w.alloc (.cells X t1)).alloc (.cells Y t2)) (w.heap.size + 1) t2 Y ∧ Blk ((w.alloc (.cells X t1)).alloc (.cells Y t2)) w.heap.size t1 X ∧ Keep [] w ((w.alloc (.cells X t1)).alloc (.cells Y t2)) := by
  have k1 : Keep [] w (w.alloc (.cells X t1)) := Keep.alloc _ _
  have k2 : Keep [] (w.alloc (.cells X t1)) ((w.alloc (.cells X t1)).alloc (.cells Y t2)) := Keep.alloc _ _
  have b2 := Blk.new (w.alloc (.cells X t1)) t2 Y
  rw [show (w.alloc (.cells X t1)).heap.size = w.heap.size + 1 by simp] at b2
  exact ⟨b2, (Blk.new w t1 X).keep k2 (by simp), k1.trans k2⟩

theorem and15 (x : Nat) (hx : x < 18446744073709551616) : bits BinOp.and IntKind.u64 (x : Int) 15 = ((pm x : Nat) : Int) := and_mask x 4 hx (by omega)

theorem and3 (x p : Nat) (hx : x < 18446744073709551616) : bits BinOp.and IntKind.u64 ((x : Int) / 2 ^ p) 3 = ((x / 2 ^ p % 4 : Nat) : Int) := by
  rw [div_cast]
  exact and_mask (x / 2 ^ p) 2 (div_lt64 x p hx) (by omega)

theorem one_new6 (W : World) (v : Value) (t : TypeId) : ∀ j u, [v][j]? = some u → (W.alloc (.cells #[v] t)).cell? ((⟨W.heap.size, 0, none⟩ : Addr).add j) = some u := by
  intro j u hu
  match j, hu with
  | 0, hu =>
    rw [addr_add0]
    have := (Blk.new W t #[v]).cell 0
    rw [Nat.zero_add, this]
    simpa using hu

end Go.Proofs.Ytbmnhngkmokklaa
