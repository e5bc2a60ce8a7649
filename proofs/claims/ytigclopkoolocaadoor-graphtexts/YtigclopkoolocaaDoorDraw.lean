/-
  A world that has only drawn (an order that Go leaves open), and nothing else: plain facts, no Go text in sight. No conditions.
-/
import Derived.WalkKit
import Derived.WalkSpells
import Derived.WalkLawsBesides
import Derived.BigQuiet
namespace Go.Flo

/-- A world that has drawn, and nothing else. -/
def Dr (w w' : World) : Prop := ∃ n, w' = w.drewN n

theorem Dr.refl (w : World) : Dr w w := ⟨0, rfl⟩
theorem Dr.trans {a b c : World} (h : Dr a b) (k : Dr b c) : Dr a c := by
  obtain ⟨n, rfl⟩ := h
  obtain ⟨m, rfl⟩ := k
  refine ⟨n + m, ?_⟩
  simp only [World.drewN, Nat.add_assoc]
theorem Dr.grown {w w' : World} (h : Dr w w') : Go.RowKit.Grown w w' := by
  obtain ⟨n, rfl⟩ := h
  exact Go.RowKit.Grown.refl _


/-- A callee that only draws, met in a region that only reads. -/
theorem quiet {P : Program} {f : FuncId} {args : Array Value} {w : World} {n : Nat} {v : Value}
    (h : Calls P f args (w.drewN n) fun e w' => e = .returned v ∧ Dr (w.drewN n) w') : Calls P f args (w.drewN n) fun e w'' => e = .returned v ∧ ∃ m, w'' = w.drewN m :=
  Calls.quiet_of h

/-- .. one that leaves the world as it was. -/
theorem quiet_same {P : Program} {f : FuncId} {args : Array Value} {w : World} {n : Nat} {v : Value}
    (h : Calls P f args (w.drewN n) fun e w' => e = .returned v ∧ w.drewN n = w') : Calls P f args (w.drewN n) fun e w'' => e = .returned v ∧ ∃ m, w'' = w.drewN m :=
  Calls.quiet_of (h.mono fun _ _ ⟨a, b⟩ => ⟨a, 0, b.symm⟩)

/-- A contract that leaves the world as it was is one that only draws. -/
theorem of_same {P : Program} {f : FuncId} {args : Array Value} {w : World} {E : Ending}
    (h : Calls P f args w fun e w' => e = E ∧ w = w') : Calls P f args w fun e w' => e = E ∧ Dr w w' :=
  h.mono fun _ _ ⟨a, b⟩ => ⟨a, b ▸ Dr.refl _⟩

theorem Dr.drewN (w : World) (n : Nat) : Dr w (w.drewN n) := ⟨n, rfl⟩
end Go.Flo
